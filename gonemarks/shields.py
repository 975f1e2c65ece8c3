"""Shields: the seats of a world that take a thing from nobody any more."""

from gonemarks.taking import fence_of, passes_over
from gonemarks.worlds import holders, markers, seats_of, sitting, sitting_entries, tellers


def would_take(seat, book, told):
    """Whether the seat, with its book, would take one of the told letters, given as (sender, number)."""
    others = [(z, number) for z, number in told if z != seat and not passes_over(book, z)]
    return any(number >= fence_of(book, z) for z, number in others)


def shielded(world, dot):
    """The greatest set of seats that are shielded for the dot, rising.

    What is sought is who is not in it: the least set with all that hold the dot or would take it from a letter, and
    with each seat that counts on one in it, not having the mark.
    """
    there = seats_of(world)
    told = [row for row in tellers(world, dot) if row[0] in there]
    marking = markers(world, dot)
    counting = {seat: book for seat, book in sitting_entries(world) if seat not in marking}
    falling = [*holders(world, dot), *[seat for seat in counting if would_take(seat, counting[seat], told)]]
    bare = {seat: True for seat in falling}
    while falling:
        z = falling.pop()
        fallen = [x for x in counting if x not in bare and not passes_over(counting[x], z)]
        for seat in fallen:
            bare[seat] = True
            falling.append(seat)
    return tuple(seat for seat in sitting(world) if seat not in bare)
