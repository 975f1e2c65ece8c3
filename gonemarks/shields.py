"""Shields: the seats of a world that take a thing from nobody any more."""

from gonemarks.taking import fence_of, passes_over
from gonemarks.worlds import holders, markers, seats_of, sitting, sitting_entries, tellers


def would_take(seat, book, told):
    """Whether the seat, with its book, would take one of the told letters, given as (sender, number)."""
    others = [(z, number) for z, number in told if z != seat and not passes_over(book, z)]
    return any(number >= fence_of(book, z) for z, number in others)


def bare(world, dot, telling):
    """The seats that sit and aren't shielded for the dot, which these letters tell; given as keys.

    They are the least set with all that hold the dot or would take it from a letter, and with each seat that counts
    on one in it, not having the mark.
    """
    there = seats_of(world)
    told = [row for row in telling if row[0] in there]
    marking = markers(world, dot)
    counting = {seat: book for seat, book in sitting_entries(world) if seat not in marking}
    falling = [*holders(world, dot), *[seat for seat in counting if would_take(seat, counting[seat], told)]]
    found = {seat: True for seat in falling}
    while falling:
        z = falling.pop()
        fallen = [x for x in counting if x not in found and not passes_over(counting[x], z)]
        for seat in fallen:
            found[seat] = True
            falling.append(seat)
    return found


def shielded(world, dot):
    """The greatest set of seats that are shielded for the dot, rising."""
    others = bare(world, dot, tellers(world, dot))
    return tuple(seat for seat in sitting(world) if seat not in others)
