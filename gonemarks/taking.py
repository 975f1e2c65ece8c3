"""Taking letters: which ones a book passes, and the book behind taking one."""

from gonemarks.books import is_behind
from gonemarks.kinds import BROUGHT, CUTS, FENCES, LEFTS, MARKS, SEAT, THINGS, TURN, with_part


def passes_over(book, seat):
    """Whether the book takes no letter of this seat, whatever its number."""
    if seat == book[SEAT]:
        return False
    return any(seat == y or is_behind(seat, y, m) for y, m in book[CUTS])


def fence_of(book, seat):
    """The number from which on the book takes letters of this seat."""
    for fenced, f in book[FENCES]:
        if fenced == seat:
            return f
    return 0


def is_passed(book, letter):
    """Whether the book takes nothing from the letter."""
    seat, number = letter[:2]
    return seat == book[SEAT] or passes_over(book, seat) or number < fence_of(book, seat)


def least_of_each(rows):
    """Of each seat the row that comes first as tuples are compared: rising."""
    least = {}
    for row in sorted(rows):
        if row[0] not in least:
            least[row[0]] = row
    return tuple(least[seat] for seat in least)


def take_marks(book, told):
    own = (book[SEAT], book[TURN], book[BROUGHT])
    marks = {mark[0]: mark[1] for mark in book[MARKS]}
    for dot, acks in told:
        marks[dot] = least_of_each((*acks, *marks.get(dot, ()), own))
    things = tuple(held for held in book[THINGS] if held[0] not in marks)
    return with_part(with_part(book, THINGS, things), MARKS, tuple((dot, marks[dot]) for dot in sorted(marks)))


def take_lefts(book, told):
    others = [left for left in told if left[0] != book[SEAT]]
    return with_part(book, LEFTS, least_of_each((*book[LEFTS], *others)))


def take_things(book, told):
    has = {row[0]: True for row in book[THINGS] + book[MARKS]}
    new = [held for held in told if held[0] not in has]
    return with_part(book, THINGS, tuple(sorted([*book[THINGS], *new])))


def take(book, letter):
    """The book behind taking the letter. Marks go first, so that no thing comes whose mark is told with it."""
    if is_passed(book, letter):
        return book
    things, marks, lefts = letter[2:]
    return take_things(take_lefts(take_marks(book, marks), lefts), things)
