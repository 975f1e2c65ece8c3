"""Things that several tests use: spoiled kinds, books by hand and by a seeded draw."""

import itertools
import random

FORTY = 10 ** 39 + 7


def book(seat=(0,), roots=2, turn=0, made=0, brought=0, things=(), marks=(), fences=(), cuts=(), lefts=()):
    return (seat, roots, turn, made, brought, things, marks, fences, cuts, lefts)


def spoiled(value):
    """Values that differ from this one, somewhere within, by a kind that can't stand there."""
    if isinstance(value, tuple):
        yield list(value)
        yield from [None, True, False, 7, "a", [], value + (None,), value + (True,)]
        for k, item in enumerate(value):
            for other in spoiled(item):
                yield value[:k] + (other,) + value[k + 1:]
    elif isinstance(value, str):
        yield from [None, True, False, 0, 1, (), [], (value,), [value]]
    else:
        yield from [None, True, False, str(value), "", (), [], (value,), [value]]


ODD = [None, True, False, 0, 1, -1, FORTY, "", "a", "has", (), [], ((),), [()], (None,), (0,), [0], ((0,), 1), ((0,), True)]


def all_seats(roots=3, most=2, depth=4):
    """All seats below these bounds, rising."""
    seats = []
    for root in range(roots):
        for size in range(depth):
            for rest in itertools.product(range(1, most + 1), repeat=size):
                seats.append((root,) + rest)
    return sorted(seats)


SEATS = all_seats()
DOTS = [(seat, k) for seat in [(0,), (0, 1), (1,)] for k in (1, 2)]


def some(draw, items, chance=0.5):
    return [item for item in items if draw.random() < chance]


def drawn_acks(draw, seats, chance):
    return tuple((seat, draw.randint(0, 4), draw.randint(0, 2)) for seat in some(draw, seats, chance))


def drawn_book(number):
    """A BOOK, right or not, of few seats; the same one for the same number."""
    draw = random.Random(number)
    near = [seat for seat in SEATS if len(seat) < 3]
    chance = draw.choice([0.1, 0.5, 0.9])
    marks = tuple((dot, drawn_acks(draw, near, chance)) for dot in some(draw, DOTS))
    things = tuple((dot, ((), "a", 1)) for dot in some(draw, DOTS, 0.2))
    fences = tuple((seat, draw.randint(1, 3)) for seat in some(draw, near, 0.2))
    cuts = tuple((seat, draw.randint(0, 2)) for seat in some(draw, near, 0.2))
    lefts = tuple((seat, draw.randint(0, 4), draw.randint(0, 2)) for seat in some(draw, near, 0.2))
    return book(draw.choice(near), draw.randint(1, 3), 5, 3, 2, things, marks, fences, cuts, lefts)
