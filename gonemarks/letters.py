"""Letters: their kinds, and how a book tells its dots by one."""

from gonemarks.books import are_lefts, are_marks, are_things
from gonemarks.errors import NoDeed
from gonemarks.kinds import LEFTS, MARKS, SEAT, THINGS, TURN, has_head, is_from, is_row, with_part
from gonemarks.names import is_dot, is_seat


def is_letter(thing):
    """Of any plain thing: whether it is a LETTER."""
    if not is_row(thing, 5):
        return False
    seat, number, things, marks, lefts = thing
    if not is_seat(seat) or not is_from(number, 0):
        return False
    if not are_things(things) or not are_marks(marks) or not are_lefts(lefts):
        return False
    return all(has_head(mark[1], seat) for mark in marks)


def is_right(letter):
    """Whether a LETTER is a right one."""
    seat, number, things, marks, lefts = letter
    marked = {mark[0]: True for mark in marks}
    late = [ack for mark in marks for ack in mark[1] if ack[0] == seat and ack[1] > number]
    return not late and all(held[0] not in marked for held in things) and all(left[0] != seat for left in lefts)


def is_right_letter(thing):
    """Of any plain thing: whether it is a right LETTER."""
    return is_letter(thing) and is_right(thing)


def chosen_dots(book, dots):
    """The told dots, as keys; refused where one is none of the book's. Their kind is looked at first: True is no 1."""
    own = {row[0]: True for row in book[THINGS] + book[MARKS]}
    chosen = {}
    for dot in dots:
        if not is_dot(dot) or dot not in own:
            raise NoDeed("dot")
        chosen[dot] = True
    return chosen


def tell(book, dots):
    """The book behind telling these dots, and the letter that tells them."""
    chosen = chosen_dots(book, dots)
    things = tuple(held for held in book[THINGS] if held[0] in chosen)
    marks = tuple(mark for mark in book[MARKS] if mark[0] in chosen)
    letter = (book[SEAT], book[TURN], things, marks, book[LEFTS])
    return (with_part(book, TURN, book[TURN] + 1), letter)


def dots_of(book):
    """The dots that the book holds or marks, rising."""
    return tuple(sorted([row[0] for row in book[THINGS] + book[MARKS]]))


def tell_all(book):
    """The book behind telling all its dots, and the letter that tells them."""
    return tell(book, dots_of(book))
