"""Two books: whether they hold the same, and what one misses of the other."""

from gonemarks.kinds import MARKS, THINGS, has_head
from gonemarks.letters import dots_of


def are_alike(one, other):
    """Whether both books hold the same things by the same dots."""
    return one[THINGS] == other[THINGS]


def held_alone(one, other):
    """The dots of what the one book holds and the other one doesn't hold just so, rising."""
    return tuple(held[0] for held in one[THINGS] if held not in other[THINGS])


def apart(one, other):
    """The dots by which the books are apart: of what the one holds, and of what the other holds."""
    return (held_alone(one, other), held_alone(other, one))


def missing(one, other):
    """The dots of the things, and of the marks, of the other book that the one misses."""
    own = dots_of(one)
    things = tuple(held[0] for held in other[THINGS] if held[0] not in own)
    return (things, tuple(mark[0] for mark in other[MARKS] if not has_head(one[MARKS], mark[0])))
