"""Papers for letting a mark go, and the going itself."""

from gonemarks.errors import NoDeed
from gonemarks.gochecker import lets_go
from gonemarks.kinds import CUTS, FENCES, LEFTS, MARKS, SEAT, with_part
from gonemarks.knowing import acks_of, closure, lacking
from gonemarks.names import is_dot


def row_for(book, dot, seat):
    """A row that is so of a seat that has a reach: one with the least m, so that only the closure's children count."""
    rows = [(seat, "has", ack[1], ack[2]) for ack in acks_of(book, dot) if ack[0] == seat]
    rows.extend([(seat, "left", left[1], left[2]) for left in book[LEFTS] if left[0] == seat])
    rows.extend([(seat, "cut", 0, cut[1]) for cut in book[CUTS] if cut[0] == seat])
    return min(rows, key=lambda row: row[3])


def paper_for(book, dot):
    """A paper for letting the book's mark of the dot go, None where a seat lacks."""
    if lacking(book, dot):
        return None
    return tuple(row_for(book, dot, seat) for seat in closure(book, dot))


def fences_behind(book, paper):
    """The book's fences behind going by the paper; a row "cut" sets none, as its n is 0."""
    fences = {seat: f for seat, f in book[FENCES]}
    for row in paper:
        if row[0] != book[SEAT] and row[2] > 0:
            fences[row[0]] = max(row[2], fences.get(row[0], 0))
    return tuple((seat, fences[seat]) for seat in sorted(fences))


def let_go(book, dot, thing):
    """The book behind letting its mark of the dot go by the thing, else NoDeed or NoPaper."""
    if not is_dot(dot) or dot not in [mark[0] for mark in book[MARKS]]:
        raise NoDeed("mark")
    lets_go(book, dot, thing)
    marks = tuple(mark for mark in book[MARKS] if mark[0] != dot)
    return with_part(with_part(book, MARKS, marks), FENCES, fences_behind(book, thing))
