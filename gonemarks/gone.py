"""What is gone for ever, and what could come back."""

from gonemarks.kinds import has_head
from gonemarks.letters import dots_of
from gonemarks.shields import shielded
from gonemarks.taking import is_passed
from gonemarks.worlds import all_counts, holders, sitting, sitting_entries


def is_put(world, dot):
    """Whether the dot's seat is there and has put it."""
    seat, k = dot
    counts = all_counts(world)
    return seat in counts and k <= counts[seat][1]


def state_of(world, dot):
    """The word of a dot: none, held, gone, adrift."""
    if not is_put(world, dot):
        return "none"
    if holders(world, dot):
        return "held"
    return "gone" if shielded(world, dot) == sitting(world) else "adrift"


def gone_dots(world):
    """All dots that are gone, rising."""
    counts = all_counts(world)
    dots = [(seat, k) for seat in counts for k in range(1, counts[seat][1] + 1)]
    return tuple(dot for dot in dots if state_of(world, dot) == "gone")


def bringing(world, dot):
    """A take behind which a seat holds the dot that did not ahead, or None."""
    told = [letter for letter in world[2] if has_head(letter[2], dot)]
    for seat, book in sitting_entries(world):
        taken = [] if dot in dots_of(book) else [letter for letter in told if not is_passed(book, letter)]
        if taken:
            return ("take", seat, taken[0][:2])
    return None
