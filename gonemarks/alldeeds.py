"""All that can be done in a world, but puts: there is no end of these."""

from gonemarks.deeds import done
from gonemarks.errors import NoDeed
from gonemarks.going import paper_for
from gonemarks.kinds import MARKS, THINGS
from gonemarks.letters import dots_of
from gonemarks.taking import take
from gonemarks.worlds import seats_of, sitting_entries


def can_be_done(world, deed):
    try:
        done(world, deed)
    except NoDeed:
        return False
    return True


def takes(world, seat, book):
    """The takes by which the book turns."""
    return [("take", seat, letter[:2]) for letter in world[2] if take(book, letter) != book]


def goings(seat, book):
    papers = [(mark[0], paper_for(book, mark[0])) for mark in book[MARKS]]
    return [("go", seat, dot, paper) for dot, paper in papers if paper is not None]


def moves(world, seat):
    """The seat's bring, cuts and leaves that aren't refused."""
    others = seats_of(world)
    cuts = [("cut", seat, other) for other in others]
    leaves = [("leave", seat, other) for other in others]
    return [deed for deed in (("bring", seat), *cuts, *leaves) if can_be_done(world, deed)]


def deeds_from(world):
    """All that can be done in a right world, seat by seat; no put, no drop."""
    found = []
    for seat, book in sitting_entries(world):
        found.append(("tell", seat, dots_of(book)))
        found.extend(takes(world, seat, book))
        found.extend([("out", seat, held[0]) for held in book[THINGS]])
        found.extend(goings(seat, book))
        found.extend(moves(world, seat))
        found.append(("fall", seat))
    return found
