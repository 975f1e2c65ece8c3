"""The small checker of contraries: worlds in which a thing would come back if its mark went."""

from gonemarks.errors import NoBack, NoWorld
from gonemarks.kinds import SEAT, is_row
from gonemarks.names import is_seat
from gonemarks.taking import passes_over
from gonemarks.worldchecker import lets_world
from gonemarks.worlds import book_of, counts_of, holders, is_world, sitting


def is_world_and_seat(thing):
    return is_row(thing, 2) and is_world(thing[0]) and is_seat(thing[1])


def is_right_world(world):
    try:
        return lets_world(world)
    except NoWorld:
        return False


def lets_back(book, dot, thing):
    """True where the thing is a contrary to the book's letting go of the dot, else NoBack."""
    if not is_world_and_seat(thing):
        raise NoBack("shape")
    world, z = thing
    if not is_right_world(world):
        raise NoBack("world")
    if book_of(world, book[SEAT]) != book:
        raise NoBack("book")
    if z == book[SEAT] or z not in sitting(world):
        raise NoBack("seat")
    if z not in holders(world, dot):
        raise NoBack("holds")
    if passes_over(book, z):
        raise NoBack("cut")
    return True


def steps_back(book, dot, thing):
    """The three deeds by which, in a contrary that is let by, the thing comes back."""
    world, z = thing
    number = counts_of(world, z)[0]
    return (("drop", book[SEAT], dot), ("tell", z, (dot,)), ("take", book[SEAT], (z, number)))
