"""Contraries: worlds that show why a mark must stay."""

from gonemarks.books import all_acks, all_dots, known_seats, lift
from gonemarks.errors import NoLines
from gonemarks.going import paper_for
from gonemarks.kinds import FENCES, LEFTS, MARKS, ROOTS, SEAT, THINGS
from gonemarks.knowing import lacking
from gonemarks.texts import read_seat, seat_text
from gonemarks.worldlines import read_world, world_lines

# Nobody knows any more what the marked thing was, so any will do.
BACK_THING = ((), "back", 0)


def told_counts(book):
    """Of each known seat, rising, turn, made, brought: as great as the book tells."""
    known = known_seats(book)
    turns = {}
    made = {}
    brought = {}
    for row in (*all_acks(book[MARKS]), *book[FENCES], *book[LEFTS]):
        lift(turns, row[0], row[1])
    for seat, k in all_dots(book[THINGS], book[MARKS]):
        lift(made, seat, k)
    for seat in known:
        lift(brought, seat[:-1], seat[-1])
    return {seat: (turns.get(seat, 0), made.get(seat, 0), brought.get(seat, 0)) for seat in known}


def holding_book(book, dot, z, counts):
    """A right book of z that holds the dot, and the least else that it may have for what this book tells of it."""
    things = [held for held in book[THINGS] if held[0][0] == z]
    marks = [(mark[0], (ack,)) for mark in book[MARKS] for ack in mark[1] if ack[0] == z]
    held = tuple(sorted([*things, (dot, BACK_THING)]))
    return (z, book[ROOTS], *counts, held, tuple(marks), (), (), ())


def contrary_for(book, dot):
    """A contrary to the book's letting go of the dot, None where there is a paper."""
    lack = lacking(book, dot)
    if not lack:
        return None
    z = lack[0]
    counts = told_counts(book)
    sits = {book[SEAT]: book, z: holding_book(book, dot, z, counts[z])}
    seats = tuple((seat, sits.get(seat, counts[seat])) for seat in counts)
    return ((book[ROOTS], seats, ()), z)


def verdict(book, dot):
    """Whether the mark of the dot may go: ("go", paper) or ("kept", contrary)."""
    paper = paper_for(book, dot)
    return ("kept", contrary_for(book, dot)) if paper is None else ("go", paper)


def contrary_lines(thing):
    """The lines that write a world and a seat."""
    world, z = thing
    return [f"back {seat_text(z)}", *world_lines(world)]


def read_back_seat(lines):
    """The seat that the first line tells, else NoLines."""
    words = lines[0].split(" ") if lines else []
    seat = read_seat(words[1]) if len(words) == 2 and words[0] == "back" else None
    if seat is None:
        raise NoLines(0)
    return seat


def read_contrary(lines):
    """The world and the seat that the lines write, else NoLines."""
    z = read_back_seat(lines)
    try:
        world = read_world(lines[1:])
    except NoLines as e:
        raise NoLines(e.row + 1)
    return (world, z)
