"""Worlds and deeds with their roots in another order."""

from gonemarks.kinds import CUTS, FENCES, LEFTS, MARKS, ROOTS, SEAT, THINGS
from gonemarks.worlds import is_off


def seat_turned(seat, order):
    return (order[seat[0]], *seat[1:])


def dot_turned(dot, order):
    return (seat_turned(dot[0], order), dot[1])


def thing_turned(thing, order):
    within, name, value = thing
    return (within if within == () else dot_turned(within, order), name, value)


def rows_turned(rows, order):
    """Rows with a seat ahead, turned and sorted anew."""
    return tuple(sorted([(seat_turned(row[0], order), *row[1:]) for row in rows]))


def things_turned(things, order):
    return tuple(sorted([(dot_turned(dot, order), thing_turned(thing, order)) for dot, thing in things]))


def marks_turned(marks, order):
    return tuple(sorted([(dot_turned(dot, order), rows_turned(acks, order)) for dot, acks in marks]))


def book_turned(book, order):
    things = things_turned(book[THINGS], order)
    marks = marks_turned(book[MARKS], order)
    others = [rows_turned(book[at], order) for at in (FENCES, CUTS, LEFTS)]
    return (seat_turned(book[SEAT], order), *book[ROOTS:THINGS], things, marks, *others)


def entry_turned(entry, order):
    seat, page = entry
    return (seat_turned(seat, order), page if is_off(entry) else book_turned(page, order))


def letter_turned(letter, order):
    seat, number, things, marks, lefts = letter
    told = (things_turned(things, order), marks_turned(marks, order), rows_turned(lefts, order))
    return (seat_turned(seat, order), number, *told)


def world_turned(world, order):
    """The right world in which order[r] stands in the place of each root r."""
    roots, seats, letters = world
    turned = tuple(sorted([entry_turned(entry, order) for entry in seats]))
    return (roots, turned, tuple(sorted([letter_turned(letter, order) for letter in letters])))


def what_turned(word, what, order):
    """What stands behind the seat in a deed of this word."""
    if word == "put":
        return thing_turned(what, order)
    if word == "tell":
        return tuple(dot_turned(dot, order) for dot in what)
    if word in ("cut", "leave"):
        return seat_turned(what, order)
    # A dot and the (sender, number) of a letter both are a seat and a number behind it.
    return dot_turned(what, order)


def deed_turned(deed, order):
    """The deed in which order[r] stands in the place of each root r; dots told stay in their order."""
    word, seat, *what = deed
    turned = [what_turned(word, one, order) for one in what[:1]]
    papers = [rows_turned(paper, order) for paper in what[1:]]
    return (word, seat_turned(seat, order), *turned, *papers)
