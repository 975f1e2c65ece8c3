"""Worlds: their kind, and what they tell of their seats and of a dot."""

from gonemarks.books import first_book, is_book
from gonemarks.kinds import MARKS, THINGS, TURN, are_rows, has_head, is_between, is_from, is_m, is_row, rise
from gonemarks.letters import is_letter
from gonemarks.names import is_seat


def are_counts(thing, seat):
    """Whether it may stand for turn, made, brought of this seat."""
    return is_row(thing, 3) and is_from(thing[0], 0) and is_from(thing[1], 0) and is_m(thing[2], seat)


def is_entry(thing):
    """Whether it is a seat with the book with which it sits, or with the counts with which it is off."""
    if not is_row(thing, 2) or not is_seat(thing[0]):
        return False
    return is_book(thing[1]) or are_counts(thing[1], thing[0])


def are_letters(thing):
    """Whether it may stand for the letters of a world: kinds come first, so that they can be compared."""
    if not isinstance(thing, tuple) or not all(is_letter(letter) for letter in thing):
        return False
    return rise([letter[:2] for letter in thing])


def is_world(thing):
    """Of any plain thing: whether it is a WORLD."""
    if not is_row(thing, 3):
        return False
    roots, seats, letters = thing
    return is_between(roots, 1, 4) and are_rows(seats, is_entry) and are_letters(letters)


def first_world(roots):
    """The world with which so many roots begin."""
    return (roots, tuple(((root,), first_book((root,), roots)) for root in range(roots)), ())


def is_off(entry):
    """Whether the seat of the entry is off: then three counts stand in the place of a book."""
    return len(entry[1]) == 3


def seats_of(world):
    """The seats of the world, rising."""
    return tuple(entry[0] for entry in world[1])


def sitting_entries(world):
    """The seats that sit, each with its book: rising."""
    return tuple(entry for entry in world[1] if not is_off(entry))


def sitting(world):
    """The seats that sit, rising."""
    return tuple(entry[0] for entry in sitting_entries(world))


def book_of(world, seat):
    """The book with which the seat sits, None where it doesn't."""
    for other, book in sitting_entries(world):
        if other == seat:
            return book
    return None


def all_counts(world):
    """Turn, made, brought of each seat of the world."""
    return {entry[0]: entry[1] if is_off(entry) else entry[1][TURN:THINGS] for entry in world[1]}


def counts_of(world, seat):
    """Turn, made, brought of the seat, None where it isn't there."""
    return all_counts(world).get(seat)


def letter_of(world, name):
    """The letter of this (sender, number), None where there is none."""
    for letter in world[2]:
        if letter[:2] == name:
            return letter
    return None


def holders(world, dot):
    """The seats that hold the dot, rising."""
    return tuple(seat for seat, book in sitting_entries(world) if has_head(book[THINGS], dot))


def markers(world, dot):
    """The seats that mark the dot, rising."""
    return tuple(seat for seat, book in sitting_entries(world) if has_head(book[MARKS], dot))


def tellers(world, dot):
    """Seat and number of each letter that tells the dot as a thing, rising."""
    return tuple(letter[:2] for letter in world[2] if has_head(letter[2], dot))


def all_tellers(world):
    """The tellers of each dot that some letter tells as a thing: asked of many dots, the letters are read but once."""
    told = {}
    for letter in world[2]:
        for held in letter[2]:
            told.setdefault(held[0], []).append(letter[:2])
    return told
