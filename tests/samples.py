"""Things that several tests use: spoiled kinds, books by hand and by a seeded draw."""

import itertools
import random

FORTY = 10 ** 39 + 7


def book(seat=(0,), roots=2, turn=0, made=0, brought=0, things=(), marks=(), fences=(), cuts=(), lefts=()):
    return (seat, roots, turn, made, brought, things, marks, fences, cuts, lefts)


def spoiled(value):
    """Values that differ from this one, somewhere within, by a kind that can't stand there."""
    if isinstance(value, tuple):
        yield list(value)
        yield from [None, True, False, 7, "a", [], value + (None,), value + (True,)]
        for k, item in enumerate(value):
            for other in spoiled(item):
                yield value[:k] + (other,) + value[k + 1:]
    elif isinstance(value, str):
        yield from [None, True, False, 0, 1, (), [], (value,), [value]]
    else:
        yield from [None, True, False, str(value), "", (), [], (value,), [value]]


ODD = [None, True, False, 0, 1, -1, FORTY, "", "a", "has", (), [], ((),), [()], (None,), (0,), [0], ((0,), 1), ((0,), True)]


def all_seats(roots=3, most=2, depth=4):
    """All seats below these bounds, rising."""
    seats = []
    for root in range(roots):
        for size in range(depth):
            for rest in itertools.product(range(1, most + 1), repeat=size):
                seats.append((root,) + rest)
    return sorted(seats)


SEATS = all_seats()
DOTS = [(seat, k) for seat in [(0,), (0, 1), (1,)] for k in (1, 2)]


def some(draw, items, chance=0.5):
    return [item for item in items if draw.random() < chance]


def drawn_acks(draw, seats, chance):
    return tuple((seat, draw.randint(0, 4), draw.randint(0, 2)) for seat in some(draw, seats, chance))


def drawn_book(number):
    """A BOOK, right or not, of few seats; the same one for the same number."""
    draw = random.Random(number)
    near = [seat for seat in SEATS if len(seat) < 3]
    chance = draw.choice([0.1, 0.5, 0.9])
    marks = tuple((dot, drawn_acks(draw, near, chance)) for dot in some(draw, DOTS))
    things = tuple((dot, ((), "a", 1)) for dot in some(draw, DOTS, 0.2))
    fences = tuple((seat, draw.randint(1, 3)) for seat in some(draw, near, 0.2))
    cuts = tuple((seat, draw.randint(0, 2)) for seat in some(draw, near, 0.2))
    lefts = tuple((seat, draw.randint(0, 4), draw.randint(0, 2)) for seat in some(draw, near, 0.2))
    return book(draw.choice(near), draw.randint(1, 3), 5, 3, 2, things, marks, fences, cuts, lefts)


def told_seats(one):
    """The seats that a book names itself, and the children that its m's name."""
    seat, roots, turn, made, brought, things, marks, fences, cuts, lefts = one
    acks = [ack for dot, acks in marks for ack in acks]
    named = {seat} | {(root,) for root in range(roots)} | {y for y, f in fences}
    named |= {dot[0] for dot, thing in things} | {dot[0] for dot, acks in marks}
    named |= {within[0] for dot, (within, name, value) in things if within}
    for y, m in [(seat, brought), *cuts, *[(y, m) for y, n, m in [*acks, *lefts]]]:
        named.add(y)
        if m:
            named.add(y + (m,))
    return named


def is_kin(seat, named):
    """Whether the seat is a stem of the named one, or an elder child beside such a stem."""
    size = len(seat)
    if size > len(named) or seat[:-1] != named[:size - 1]:
        return False
    return seat == named[:1] if size == 1 else seat[-1] <= named[size - 1]


def known_by_kin(one, seats=tuple(all_seats(4, 3, 4))):
    """[13] by another way: of all seats below some bounds those that are kin to a named one."""
    named = told_seats(one)
    return tuple(seat for seat in seats if any(is_kin(seat, other) for other in named))


def right_drawn(number):
    """A right book, made of a drawn one by mending what is amiss."""
    draw = random.Random(number)
    seat, roots, turn, made, brought, things, marks, fences, cuts, lefts = drawn_book(number)
    roots = 3
    marks = tuple((dot, mended_acks(draw, seat, acks)) for dot, acks in marks)
    things = tuple(row for row in things if row[0] not in [dot for dot, acks in marks])
    fences = tuple(row for row in fences if row[0] != seat)
    cuts = tuple(row if seat[:1] != row[0] else (row[0], 2) for row in cuts if row[0] != seat)
    one = book(seat, roots, turn, made, 0, things, marks, fences, cuts, tuple(row for row in lefts if row[0] != seat))
    known = known_by_kin(one)
    acks = [ack for dot, acks in marks for ack in acks]
    mended = []
    for y, b, m in one[9]:
        b = max([b, *[a for z, a, n in acks if z == y], *[f for z, f in fences if z == y]])
        mended.append((y, b, max([m, *[known_seat[-1] for known_seat in known if known_seat[:-1] == y]])))
    brought = max([0, *[other[-1] for other in known if other[:-1] == seat]])
    return one[:4] + (brought,) + one[5:9] + (tuple(mended),)


def mended_acks(draw, seat, acks):
    own = (seat, draw.randint(0, 5), draw.randint(0, 2))
    return tuple(sorted([ack for ack in acks if ack[0] != seat] + [own]))


RIGHT = [right_drawn(number) for number in range(400)]
