"""What a book knows of who has a dot's mark, and whom it still has to ask."""

from gonemarks.kinds import CUTS, LEFTS, MARKS, ROOTS


def acks_of(book, dot):
    """The ACKs of the dot's mark, () where it has none."""
    for marked, acks in book[MARKS]:
        if marked == dot:
            return acks
    return ()


def reach_of(book, dot, seat):
    """The least m that the dot's ACK, the left and the cut of the seat tell, or None."""
    told = [row[2] for row in acks_of(book, dot) + book[LEFTS] if row[0] == seat]
    told.extend([row[1] for row in book[CUTS] if row[0] == seat])
    return min(told, default=None)


def children_within(book, dot, seats):
    """The children up to their reach of those seats that have one."""
    children = []
    for seat in seats:
        reach = reach_of(book, dot, seat)
        if reach is not None:
            children.extend([seat + (i,) for i in range(1, reach + 1)])
    return children


def closure(book, dot):
    """All seats of which it must be known, for the mark to go: rising."""
    found = []
    level = [(root,) for root in range(book[ROOTS])]
    while level:
        found.extend(level)
        level = children_within(book, dot, level)
    return tuple(sorted(found))


def lacking(book, dot):
    """The seats of the closure without a reach: rising."""
    return tuple(seat for seat in closure(book, dot) if reach_of(book, dot, seat) is None)


def asks(book):
    """For each lacking seat the dots whose marks lack it."""
    asked = {}
    for mark in book[MARKS]:
        for seat in lacking(book, mark[0]):
            asked[seat] = asked.get(seat, ()) + (mark[0],)
    return tuple((seat, asked[seat]) for seat in sorted(asked))
