"""Meetings: two seats that tell one another all, and rounds behind which no mark is left."""

from gonemarks.deeds import walked
from gonemarks.errors import NoMeeting
from gonemarks.going import paper_for
from gonemarks.kinds import LEFTS, MARKS, TURN, has_head
from gonemarks.letters import dots_of
from gonemarks.taking import passes_over
from gonemarks.worlds import book_of, seats_of, sitting, sitting_entries


def telling(world, x, y):
    """The two deeds by which x tells all and y takes that letter."""
    book = book_of(world, x)
    return (("tell", x, dots_of(book)), ("take", y, (x, book[TURN])))


def meeting(world, x, y):
    """The four deeds by which x and y tell one another all, else NoMeeting."""
    sits = sitting(world)
    if x == y or x not in sits or y not in sits:
        raise NoMeeting("sits")
    if passes_over(book_of(world, x), y) or passes_over(book_of(world, y), x):
        raise NoMeeting("over")
    first = telling(world, x, y)
    return first + telling(walked(world, first), y, x)


def is_some_cut(world):
    """Whether some seat that sits passes over another one that sits."""
    return any(passes_over(book, z) for seat, book in sitting_entries(world) for z in sitting(world))


def is_settled(world, seat):
    """Whether a seat that is off is no hindrance: somebody knows that it left, or all pass it over."""
    books = [book for other, book in sitting_entries(world)]
    return any(has_head(book[LEFTS], seat) for book in books) or all(passes_over(book, seat) for book in books)


def all_goings(world):
    """All marks of all seats that sit go, each by its paper."""
    marks = [(seat, book, mark[0]) for seat, book in sitting_entries(world) for mark in book[MARKS]]
    return [("go", seat, dot, paper_for(book, dot)) for seat, book, dot in marks]


def rounds(world):
    """Tells, takes and goings behind which no seat that sits has a mark, else NoMeeting.

    The first seat meets all others three times: marks and lefts come to it, then to all, and with them the acks to
    it, then these to all.
    """
    sits = sitting(world)
    if is_some_cut(world):
        raise NoMeeting("cut")
    if not all(seat in sits or is_settled(world, seat) for seat in seats_of(world)):
        raise NoMeeting("off")
    row = []
    for y in sits[1:] * 3:
        met = meeting(world, sits[0], y)
        row.extend(met)
        world = walked(world, met)
    return (*row, *all_goings(world))
