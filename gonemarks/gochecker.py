"""The small checker of papers for letting a mark go: it seeks nothing, it only looks things up."""

from gonemarks.errors import NoPaper
from gonemarks.kinds import CUTS, LEFTS, ROOTS, are_rows, is_from, is_m, is_row
from gonemarks.knowing import acks_of
from gonemarks.names import is_seat


def is_paper_row(thing):
    if not is_row(thing, 4) or not is_seat(thing[0]):
        return False
    seat, word, n, m = thing
    if not is_from(n, 0) or not is_m(m, seat):
        return False
    return word in ("has", "left") or (word == "cut" and n == 0)


def is_paper(thing):
    """Of any plain thing: whether it is a PAPER."""
    return are_rows(thing, is_paper_row)


def row_is_so(book, dot, row):
    seat, word, n, m = row
    if word == "has":
        return (seat, n, m) in acks_of(book, dot)
    if word == "left":
        return (seat, n, m) in book[LEFTS]
    return (seat, m) in book[CUTS]


def children_stand(row, standing):
    return all(row[0] + (i,) in standing for i in range(1, row[3] + 1))


def lets_go(book, dot, thing):
    """True where the thing is a paper for letting the book's mark of the dot go, else NoPaper."""
    if not is_paper(thing):
        raise NoPaper("shape", -1)
    for k, row in enumerate(thing):
        if not row_is_so(book, dot, row):
            raise NoPaper("row", k)
    standing = {row[0]: True for row in thing}
    for root in range(book[ROOTS]):
        if (root,) not in standing:
            raise NoPaper("root", root)
    for k, row in enumerate(thing):
        if not children_stand(row, standing):
            raise NoPaper("child", k)
    return True
