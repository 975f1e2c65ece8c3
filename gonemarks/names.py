"""Seats, dots, things: their kinds, and how seats come from one another."""

from gonemarks.kinds import is_between, is_from, is_row

SMALL_LETTERS = "abcdefghijklmnopqrstuvwxyz"


def is_seat(thing):
    """Of any plain thing: whether it is a SEAT."""
    if not isinstance(thing, tuple) or not 1 <= len(thing) <= 5:
        return False
    return is_between(thing[0], 0, 3) and all(is_between(number, 1, 99) for number in thing[1:])


def is_dot(thing):
    """Of any plain thing: whether it is a DOT."""
    return is_row(thing, 2) and is_seat(thing[0]) and is_from(thing[1], 1)


def is_name(thing):
    if not isinstance(thing, str) or not 1 <= len(thing) <= 8:
        return False
    return all(sign in SMALL_LETTERS for sign in thing)


def is_thing(thing):
    """Of any plain thing: whether it is a THING."""
    if not is_row(thing, 3):
        return False
    within, name, value = thing
    return (within == () or is_dot(within)) and is_name(name) and is_between(value, -999, 999)


def begins(seat, other):
    """Whether the seat begins with the other one."""
    return seat[:len(other)] == other


def child_of(seat, i):
    """The seat's child i, None where the seat is too deep to have one."""
    return None if len(seat) == 5 else seat + (i,)


def stems(seat):
    """The seats with which this one begins, its root first, itself last."""
    return tuple(seat[:size] for size in range(1, len(seat) + 1))
