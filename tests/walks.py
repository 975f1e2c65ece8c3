"""Worlds for the tests: drawn by a seeded walk of deeds, bent, and judged a second time by slow ways of their own."""

import random

from gonemarks.books import known_seats, right_book
from gonemarks.errors import NoBook
from gonemarks.going import let_go, paper_for
from gonemarks.letters import is_right_letter, tell
from gonemarks.taking import take
from gonemarks.worlds import first_world, is_world
from tests.samples import some

NAMES = ["a", "pear", "zzzzzzzz"]


def books_in(world):
    return {seat: page for seat, page in world[1] if len(page) == 10}


def counts_in(world):
    return {seat: page if len(page) == 3 else page[2:5] for seat, page in world[1]}


def with_page(world, seat, page):
    seats = dict(world[1])
    seats[seat] = page
    return (world[0], tuple(sorted(seats.items(), key=lambda entry: entry[0])), world[2])


def with_letter(world, letter):
    return world[:2] + (tuple(sorted([*world[2], letter], key=lambda one: one[:2])),)


def brought_child(one):
    """[34]: the book behind bringing its next child, and the child's book."""
    seat, roots, turn, made, brought, things, marks, fences, cuts, lefts = one
    child = seat + (brought + 1,)
    marks = tuple((dot, tuple(sorted([*acks, (child, 0, 0)]))) for dot, acks in marks)
    own = [(seat, turn)] if turn else []
    fences = tuple(sorted([*fences, *own]))
    return one[:4] + (brought + 1,) + one[5:], (child, roots, 0, 0, 0, things, marks, fences, cuts, lefts)


def with_cut(one, other):
    """[35]: the book behind cutting a known seat."""
    known = known_seats(one)
    m = max([0, *[seat[len(other)] for seat in known if seat[:len(other)] == other and len(seat) > len(other)]])
    return one[:8] + (tuple(sorted([*one[8], (other, m)])),) + one[9:]


def is_over(one, seat):
    """[28] by another way: stem by stem of the seat."""
    if seat == one[0]:
        return False
    cuts = dict(one[8])
    stem_cut = [size for size in range(1, len(seat)) if seat[:size] in cuts and seat[size] > cuts[seat[:size]]]
    return seat in cuts or bool(stem_cut)


def put_deed(draw, world, seat):
    one = books_in(world)[seat]
    within = draw.choice([(), *[dot for dot, thing in one[5]]])
    held = ((seat, one[3] + 1), (within, draw.choice(NAMES), draw.randint(-3, 3)))
    return with_page(world, seat, one[:3] + (one[3] + 1, one[4], tuple(sorted([*one[5], held]))) + one[6:])


def out_deed(draw, world, seat):
    one = books_in(world)[seat]
    if not one[5]:
        return world
    gone = {draw.choice(one[5])[0]}
    for _ in one[5]:
        gone |= {dot for dot, thing in one[5] if thing[0] in gone}
    things = tuple(row for row in one[5] if row[0] not in gone)
    marks = sorted([*one[6], *[(dot, ((seat, one[2], one[4]),)) for dot in gone]])
    return with_page(world, seat, one[:5] + (things, tuple(marks)) + one[7:])


def tell_deed(draw, world, seat):
    one = books_in(world)[seat]
    if len(world[2]) > 13:
        return world
    behind, letter = tell(one, some(draw, [row[0] for row in one[5] + one[6]], draw.choice([0.5, 1])))
    return with_letter(with_page(world, seat, behind), letter)


def take_deed(draw, world, seat):
    for letter in some(draw, world[2], 0.4):
        world = with_page(world, seat, take(books_in(world)[seat], letter))
    return world


def go_deed(draw, world, seat):
    one = books_in(world)[seat]
    for dot, acks in one[6]:
        paper = paper_for(one, dot)
        if paper is not None:
            return with_page(world, seat, let_go(one, dot, paper))
    return world


def bring_deed(draw, world, seat):
    if len(seat) == 5 or len(world[1]) > 8:
        return world
    behind, child = brought_child(books_in(world)[seat])
    return with_page(with_page(world, seat, behind), child[0], child)


def cut_deed(draw, world, seat):
    one = books_in(world)[seat]
    others = [other for other in known_seats(one) if other != seat and not is_over(one, other)]
    return with_page(world, seat, with_cut(one, draw.choice(others))) if others else world


def leave_deed(draw, world, seat):
    one = books_in(world)[seat]
    others = [other for other, page in books_in(world).items() if other != seat and not is_over(page, seat)]
    if not others or len(world[2]) > 13:
        return world
    behind, letter = tell(one, [row[0] for row in one[5] + one[6]])
    other = draw.choice(others)
    page = take(books_in(world)[other], letter)
    page = page[:9] + (tuple(sorted([*page[9], (seat, behind[2], behind[4])])),)
    return with_letter(with_page(with_page(world, seat, behind[2:5]), other, page), letter)


def fall_deed(draw, world, seat):
    return with_page(world, seat, books_in(world)[seat][2:5])


DEEDS = {put_deed: 5, out_deed: 3, tell_deed: 6, take_deed: 8, go_deed: 4, bring_deed: 3, cut_deed: 0.6, leave_deed: 0.6,
         fall_deed: 0.3}


def walk(number, steps=24):
    """The worlds of a walk: tuples of a deed's name and the world behind it; the same ones for the same number."""
    draw = random.Random(number)
    world = first_world(draw.choice([1, 2, 2, 3, 3, 4]))
    walked = [("first", world)]
    for _ in range(steps):
        seats = list(books_in(world))
        if not seats:
            break
        deed = draw.choices(list(DEEDS), list(DEEDS.values()))[0]
        world = deed(draw, world, draw.choice(seats))
        walked.append((deed.__name__, world))
    return walked


def lonely(one):
    """A world in which a right book's seat sits alone; all others that it knows are off, with what it tells of them."""
    known = known_seats(one)
    acks = [ack for dot, acks in one[6] for ack in acks]
    dots = [dot for dot, what in one[5] + one[6]] + [thing[0] for dot, thing in one[5] if thing[0]]
    seats = []
    for seat in known:
        turn = max([0, *[row[1] for row in [*acks, *one[7], *one[9]] if row[0] == seat]])
        made = max([0, *[k for s, k in dots if s == seat]])
        brought = max([0, *[other[-1] for other in known if other[:-1] == seat]])
        seats.append((seat, one if seat == one[0] else (turn, made, brought)))
    return (one[1], tuple(seats), ())


def dots_in(world):
    """All dots that seats of the world put."""
    return [(seat, k) for seat, counts in counts_in(world).items() for k in range(1, min(counts[1], 60) + 1)]


def stands_in(world, dot, chosen):
    """[56] as it stands there: whether these sitting seats are such a set."""
    books = books_in(world)
    for x in chosen:
        one = books[x]
        if dot in dict(one[5]):
            return False
        if dot in dict(one[6]):
            continue
        for z, page in world[1]:
            if z == x or is_over(one, z):
                continue
            if z in books and z not in chosen:
                return False
            told = [letter[1] for letter in world[2] if letter[0] == z and dot in dict(letter[2])]
            if any(number >= dict(one[7]).get(z, 0) for number in told):
                return False
    return True


def shielded_by_sets(world, dot):
    """[56]: the union of all sets that are such, of few sitting seats."""
    seats = sorted(books_in(world))
    best = set()
    for bits in range(2 ** len(seats)):
        chosen = {seat for k, seat in enumerate(seats) if bits >> k & 1}
        if not chosen <= best and stands_in(world, dot, chosen):
            best |= chosen
    return tuple(sorted(best))


def shielded_by_striking(world, dot):
    """[56]: from all that sit, one that can't be in it is struck at a time."""
    chosen = sorted(books_in(world))
    while not stands_in(world, dot, chosen):
        for x in chosen:
            rest = [z for z in chosen if z != x]
            if not fits_among(world, dot, x, chosen):
                chosen = rest
                break
    return tuple(chosen)


def fits_among(world, dot, x, chosen):
    """Whether x may stay among the chosen: those beside it are taken as marking the dot, so only x is looked at."""
    mark = ((dot, ()),)
    for z in chosen:
        if z != x:
            one = books_in(world)[z]
            world = with_page(world, z, one[:5] + ((), mark) + one[7:])
    return stands_in(world, dot, chosen)


def pages_in(world):
    """The pages: (seat, things, marks, fences, cuts, lefts)."""
    books = [(seat, *page[5:]) for seat, page in world[1] if len(page) == 10]
    return books + [(letter[0], letter[2], letter[3], (), (), letter[4]) for letter in world[2]]


def is_page(world, counts, seat, page):
    if len(page) == 5:
        return is_right_letter(page) and seat in counts and page[1] < counts[seat][0]
    try:
        return right_book(page) and (page[0], page[1]) == (seat, world[0])
    except NoBook:
        return False


def named_in(page):
    """All seats and all dots that stand in a page."""
    seat, things, marks, fences, cuts, lefts = page
    dots = [dot for dot, what in things + marks] + [thing[0] for dot, thing in things if thing[0]]
    acks = [ack for dot, acks in marks for ack in acks]
    return {dot[0] for dot in dots} | {row[0] for row in [*acks, *fences, *cuts, *lefts]}, dots


def is_true(world, dot, ack, shields):
    """[58]: whether an ACK is true."""
    y, a, m = ack
    books, counts = books_in(world), counts_in(world)
    if a > counts[y][0] or m > counts[y][2]:
        return False
    if y in books and y not in shields:
        return False
    if [letter for letter in world[2] if letter[0] == y and letter[1] >= a and dot in dict(letter[2])]:
        return False
    for z in counts:
        if len(z) > len(y) and z[:len(y)] == y and z[len(y)] > m:
            if z in books and z not in shields:
                return False
            if [letter for letter in world[2] if letter[0] == z and dot in dict(letter[2])]:
                return False
    return True


def amiss(world, word, page, ahead):
    """[58]: whether a page, behind those ahead, is amiss by a word."""
    seat, things, marks, fences, cuts, lefts = page
    counts, books = counts_in(world), books_in(world)
    if word == "named":
        seats, dots = named_in(page)
        return not seats <= set(counts) or any(k > counts[s][1] for s, k in dots)
    if word == "thing":
        told = [row for other in ahead for row in other[1]]
        return any(one == two and thing != other for one, thing in things for two, other in told)
    if word == "fence":
        return any(f > counts[s][0] for s, f in fences)
    if word == "cut":
        return any(m > counts[s][2] for s, m in cuts)
    if word == "left":
        return any(s in books or counts[s][0] != b or counts[s][2] != m for s, b, m in lefts)
    if word == "ack":
        told = [(dot, acks, shielded_by_striking(world, dot)) for dot, acks in marks]
        return not all(is_true(world, dot, ack, shields) for dot, acks, shields in told for ack in acks)
    if len(ahead) >= len(books):
        return False
    mine = [(seat, k) for k in range(1, counts[seat][1] + 1) if (seat, k) not in dict(things)]
    return any(seat not in shielded_by_striking(world, dot) for dot in mine)


def verdict_by_words(world):
    """[58] by another way: (word, place), or True."""
    if not is_world(world):
        return ("shape", -1)
    counts = counts_in(world)
    wanted = {(root,) for root in range(world[0])}
    wanted |= {seat + (i,) for seat in counts for i in range(1, counts[seat][2] + 1)}
    if wanted != set(counts):
        return ("seats", -1)
    raw = [entry for entry in world[1] if len(entry[1]) == 10] + [(letter[0], letter) for letter in world[2]]
    for p, (seat, page) in enumerate(raw):
        if not is_page(world, counts, seat, page):
            return ("page", p)
    pages = pages_in(world)
    for word in ("named", "thing", "fence", "cut", "left", "ack", "own"):
        for p, page in enumerate(pages):
            if amiss(world, word, page, pages[:p]):
                return (word, p)
    return True


def bent(draw, value):
    """The value with one small change somewhere within."""
    if isinstance(value, tuple) and value and draw.random() < 0.93:
        k = draw.randrange(len(value))
        return value[:k] + (bent(draw, value[k]),) + value[k + 1:]
    if isinstance(value, tuple):
        k = draw.randrange(len(value) + 1)
        return draw.choice([value[:k] + value[k + 1:], value[:k] + value[k:k + 1] + value[k:]])
    if isinstance(value, str):
        return draw.choice(NAMES)
    return draw.choice([value - 1, value + 1, value + 1, draw.randint(0, 3)])


def part_of_another_time(draw, world, other):
    """The world with a part of a seat's book, or a letter, from another world of its walk."""
    books, elder = books_in(world), books_in(other)
    both = [seat for seat in books if seat in elder]
    if other[2] and draw.random() < 0.3:
        letters = {letter[:2]: letter for letter in world[2]}
        letter = draw.choice(other[2])
        letters[letter[:2]] = letter
        return world[:2] + (tuple(letters[key] for key in sorted(letters)),)
    if not both:
        return world
    seat = draw.choice(both)
    k = draw.randrange(5, 10)
    one = books[seat][:k] + (elder[seat][k],) + books[seat][k + 1:]
    return with_page(world, seat, one)


def grown(draw, world):
    """The world with a row more, or one other, in a book: mostly right in itself, but not here."""
    books = books_in(world)
    if not books:
        return world
    seat = draw.choice(list(books))
    one = books[seat]
    others = [other for other in counts_in(world) if other != seat]
    dots = [dot for dot in dots_in(world) if dot not in dict(one[5]) and dot not in dict(one[6])]
    k = draw.choice([5, 6, 7, 8, 9])
    if k < 7 and dots:
        what = ((), "a", 1) if k == 5 else ((seat, draw.randint(0, one[2]), draw.randint(0, one[4])),)
        row = (draw.choice(dots), what)
    elif k >= 7 and others:
        other = draw.choice(others)
        turn, made, brought = counts_in(world)[other]
        row = {7: (other, draw.randint(1, turn + 1)), 8: (other, draw.randint(0, brought + (len(other) < 5))),
               9: (other, turn, brought)}[k]
    else:
        return world
    rows = {**dict([(old[0], old) for old in one[k]]), row[0]: row}
    return with_page(world, seat, one[:k] + (tuple(rows[head] for head in sorted(rows)),) + one[k + 1:])


def spoiled_worlds(number, many):
    """Worlds of a walk, each bent in one or two ways."""
    draw = random.Random(number)
    worlds = [world for name, world in walk(number)]
    for _ in range(many):
        world = draw.choice(worlds)
        for _ in range(draw.choice([1, 1, 2])):
            way = draw.randrange(10)
            if not is_world(world) or way == 0:
                world = bent(draw, world)
            else:
                world = part_of_another_time(draw, world, draw.choice(worlds)) if way < 5 else grown(draw, world)
        yield world
