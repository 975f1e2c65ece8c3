"""Rows of deeds for the tests: drawn from deeds_from and puts, and done a second time by ways of their own."""

import random

from gonemarks.alldeeds import deeds_from
from gonemarks.books import known_seats
from gonemarks.deeds import done
from gonemarks.errors import NoDeed
from gonemarks.gochecker import lets_go
from gonemarks.worlds import first_world
from tests.walks import NAMES, books_in, brought_child, is_over, with_cut, with_letter, with_page

CHANCES = {"tell": 3, "take": 15, "out": 3, "go": 12, "bring": 1.5, "cut": 0.4, "leave": 0.4, "fall": 0.2}


def drawn_put(draw, world):
    seat, one = draw.choice(list(books_in(world).items()))
    within = draw.choice([(), (), *[dot for dot, thing in one[5]]])
    return ("put", seat, (within, draw.choice(NAMES), draw.randint(-3, 3)))


def drawn_deed(draw, world, chances):
    if draw.random() < 0.25:
        return drawn_put(draw, world)
    deeds = {}
    for deed in deeds_from(world):
        deeds.setdefault(deed[0], []).append(deed)
    if len(world[1]) > 8:
        deeds.pop("bring", None)
    words = sorted(deeds)
    deed = draw.choice(deeds[draw.choices(words, [chances[word] for word in words])[0]])
    if deed[0] == "tell" and draw.random() < 0.5:
        return deed[:2] + (tuple(dot for dot in deed[2] if draw.random() < 0.6),)
    return deed


def stepped(number, steps=28):
    """A row of deeds from a first world: (None, first world), then each (deed, world behind it)."""
    draw = random.Random(number)
    chances = {word: CHANCES[word] * draw.choice([0.3, 1, 1, 3]) for word in CHANCES}
    world = first_world(draw.choice([1, 2, 2, 3, 4]))
    rows = [(None, world)]
    for _ in range(steps):
        if not books_in(world):
            break
        deed = drawn_deed(draw, world, chances)
        world = done(world, deed)
        rows.append((deed, world))
    return rows


STEPS = [stepped(number) for number in range(120)]


def each_step():
    """Each deed of all rows: the deed, the world ahead, the world behind it."""
    for rows in STEPS:
        for (_, ahead), (deed, behind) in zip(rows, rows[1:]):
            yield deed, ahead, behind


def some_worlds(every=4):
    return [world for rows in STEPS for deed, world in rows[::every]]


def refuse_unless(truth, word):
    if not truth:
        raise NoDeed(word)


def gone_with(one, dot):
    gone = {dot}
    for _ in one[5]:
        gone |= {held for held, thing in one[5] if thing[0] in gone}
    return gone


def told_by(one, dots):
    """[26]: the letter by which a book tells these dots."""
    things = tuple(row for row in one[5] if row[0] in dots)
    return (one[0], one[2], things, tuple(row for row in one[6] if row[0] in dots), one[9])


def put_again(one, thing):
    refuse_unless(thing[0] == () or thing[0] in dict(one[5]), "within")
    held = ((one[0], one[3] + 1), thing)
    return one[:3] + (one[3] + 1, one[4], tuple(sorted([*one[5], held]))) + one[6:]


def out_again(one, dot):
    refuse_unless(dot in dict(one[5]), "held")
    gone = gone_with(one, dot)
    marks = sorted([*one[6], *[(lost, ((one[0], one[2], one[4]),)) for lost in gone]])
    return one[:5] + (tuple(row for row in one[5] if row[0] not in gone), tuple(marks)) + one[7:]


def taken_again(one, letter):
    """[29], dot by dot."""
    seat, number, things, marks, lefts = letter
    if seat == one[0] or is_over(one, seat) or number < dict(one[7]).get(seat, 0):
        return one
    held, marked = dict(one[5]), dict(one[6])
    for dot, acks in marks:
        held.pop(dot, None)
        told = {}
        for y, a, m in [*acks, *marked.get(dot, ()), (one[0], one[2], one[4])]:
            told[y] = min(told.get(y, (a, m)), (a, m))
        marked[dot] = tuple((y, *told[y]) for y in sorted(told))
    for dot, thing in things:
        if dot not in marked:
            held.setdefault(dot, thing)
    left = {row[0]: row for row in [*lefts, *one[9]] if row[0] != one[0]}
    rows = [tuple(sorted(part.items())) for part in (held, marked)]
    return one[:5] + tuple(rows) + one[7:9] + (tuple(sorted(left.values())),)


def gone_again(one, dot, paper):
    refuse_unless(dot in dict(one[6]), "mark")
    lets_go(one, dot, paper)
    fences = dict(one[7])
    for seat, word, n, m in paper:
        if word != "cut" and seat != one[0] and max(n, fences.get(seat, 0)) > 0:
            fences[seat] = max(n, fences.get(seat, 0))
    marks = tuple(row for row in one[6] if row[0] != dot)
    return one[:6] + (marks, tuple(sorted(fences.items()))) + one[8:]


def cut_again(one, other):
    refuse_unless(other in known_seats(one), "seat")
    refuse_unless(other != one[0], "own")
    refuse_unless(not is_over(one, other), "again")
    return with_cut(one, other)


def left_again(world, seat, other):
    books = books_in(world)
    refuse_unless(other in books, "other")
    refuse_unless(other != seat, "own")
    refuse_unless(not is_over(books[other], seat), "over")
    one = books[seat]
    letter = told_by(one, [row[0] for row in one[5] + one[6]])
    page = taken_again(books[other], letter)
    page = page[:9] + (tuple(sorted([*page[9], (seat, one[2] + 1, one[4])])),)
    return with_letter(with_page(with_page(world, seat, (one[2] + 1, *one[3:5])), other, page), letter)


def brought_again(world, one):
    refuse_unless(len(one[0]) < 5, "deep")
    refuse_unless(one[4] < 99, "many")
    behind, child = brought_child(one)
    return with_page(with_page(world, one[0], behind), child[0], child)


def told_again(world, one, dots):
    refuse_unless(all(dot in dict(one[5] + one[6]) for dot in dots), "dot")
    behind = one[:2] + (one[2] + 1,) + one[3:]
    return with_letter(with_page(world, one[0], behind), told_by(one, dots))


def took_again(world, one, name):
    letters = [letter for letter in world[2] if letter[:2] == name]
    refuse_unless(letters, "letter")
    return with_page(world, one[0], taken_again(one, letters[0]))


def dropped_again(world, one, dot):
    refuse_unless(dot in dict(one[6]), "mark")
    return with_page(world, one[0], one[:6] + (tuple(row for row in one[6] if row[0] != dot),) + one[7:])


def done_again(world, deed):
    """[61] by another way."""
    word, seat, *what = deed
    refuse_unless(seat in books_in(world), "seat")
    one = books_in(world)[seat]
    if word in ("put", "out", "go", "cut"):
        turn = {"put": put_again, "out": out_again, "go": gone_again, "cut": cut_again}[word]
        return with_page(world, seat, turn(one, *what))
    if word == "leave":
        return left_again(world, seat, *what)
    if word == "fall":
        return with_page(world, seat, one[2:5])
    turn = {"bring": brought_again, "tell": told_again, "take": took_again, "drop": dropped_again}[word]
    return turn(world, one, *what)
