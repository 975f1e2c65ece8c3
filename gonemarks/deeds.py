"""Deeds: their kind, and the world behind one, or behind a row of them."""

from gonemarks.errors import NoDeed
from gonemarks.gochecker import is_paper
from gonemarks.going import let_go
from gonemarks.kinds import BROUGHT, MADE, MARKS, SEAT, THINGS, TURN, has_head, is_from, is_row, with_part
from gonemarks.letters import tell
from gonemarks.moving import bring, cut, leave
from gonemarks.names import is_dot, is_seat, is_thing
from gonemarks.own import out, put
from gonemarks.taking import take
from gonemarks.worlds import book_of, letter_of


def are_dots(thing):
    return isinstance(thing, tuple) and all(is_dot(dot) for dot in thing)


def names_letter(thing):
    """Whether it is a sender and a letter's number."""
    return is_row(thing, 2) and is_seat(thing[0]) and is_from(thing[1], 0)


def is_what(word, what):
    """Whether it may stand behind the seat in a deed of this word that has just one thing there."""
    if word == "put":
        return is_thing(what)
    if word in ("out", "drop"):
        return is_dot(what)
    if word in ("cut", "leave"):
        return is_seat(what)
    if word == "tell":
        return are_dots(what)
    return word == "take" and names_letter(what)


def is_deed(thing):
    """Of any plain thing: whether it is a DEED."""
    if not isinstance(thing, tuple) or len(thing) < 2 or not is_seat(thing[1]):
        return False
    word = thing[0]
    if word in ("bring", "fall"):
        return len(thing) == 2
    if word == "go":
        return len(thing) == 4 and is_dot(thing[2]) and is_paper(thing[3])
    return len(thing) == 3 and is_what(word, thing[2])


def with_entry(world, seat, page):
    """The world in which the seat sits with this book, or is off with these counts."""
    others = [entry for entry in world[1] if entry[0] != seat]
    return (world[0], tuple(sorted([*others, (seat, page)])), world[2])


def with_book(world, book):
    return with_entry(world, book[SEAT], book)


def with_letter(world, letter):
    return (world[0], world[1], tuple(sorted([*world[2], letter])))


def done_put(world, book, thing):
    return with_book(world, put(book, thing)[0])


def done_out(world, book, dot):
    return with_book(world, out(book, dot))


def done_tell(world, book, dots):
    behind, letter = tell(book, dots)
    return with_letter(with_book(world, behind), letter)


def done_take(world, book, name):
    letter = letter_of(world, name)
    if letter is None:
        raise NoDeed("letter")
    return with_book(world, take(book, letter))


def done_go(world, book, dot, paper):
    return with_book(world, let_go(book, dot, paper))


def done_bring(world, book):
    behind, child = bring(book)
    return with_book(with_book(world, behind), child)


def done_cut(world, book, other):
    return with_book(world, cut(book, other))


def done_leave(world, book, other):
    stays = book_of(world, other)
    if stays is None:
        raise NoDeed("other")
    letter, behind = leave(book, stays)
    counts = (letter[1] + 1, book[MADE], book[BROUGHT])
    return with_letter(with_book(with_entry(world, book[SEAT], counts), behind), letter)


def done_fall(world, book):
    return with_entry(world, book[SEAT], book[TURN:THINGS])


def done_drop(world, book, dot):
    if not has_head(book[MARKS], dot):
        raise NoDeed("mark")
    return with_book(world, with_part(book, MARKS, tuple(mark for mark in book[MARKS] if mark[0] != dot)))


DOINGS = {"put": done_put, "out": done_out, "tell": done_tell, "take": done_take, "go": done_go, "bring": done_bring,
          "cut": done_cut, "leave": done_leave, "fall": done_fall, "drop": done_drop}


def done(world, deed):
    """The world behind the deed, else NoDeed or NoPaper."""
    word, seat, *what = deed
    book = book_of(world, seat)
    if book is None:
        raise NoDeed("seat")
    doing = DOINGS[word]
    return doing(world, book, *what)


def walked(world, row):
    """The world behind the last deed of the row; refused as the first one that is refused."""
    for deed in row:
        world = done(world, deed)
    return world
