"""Books: their kinds, the seats that they know, and which ones are right."""

from gonemarks.errors import NoBook
from gonemarks.kinds import (BROUGHT, CUTS, FENCES, LEFTS, MADE, MARKS, ROOTS, SEAT, THINGS, TURN, are_rows,
                             is_between, is_from, is_m, is_row)
from gonemarks.names import begins, is_dot, is_seat, is_thing, stems


def is_held(thing):
    return is_row(thing, 2) and is_dot(thing[0]) and is_thing(thing[1])


def is_ack(thing):
    if not is_row(thing, 3) or not is_seat(thing[0]):
        return False
    return is_from(thing[1], 0) and is_m(thing[2], thing[0])


def is_mark(thing):
    return is_row(thing, 2) and is_dot(thing[0]) and are_rows(thing[1], is_ack)


def is_fence(thing):
    return is_row(thing, 2) and is_seat(thing[0]) and is_from(thing[1], 1)


def is_cut(thing):
    return is_row(thing, 2) and is_seat(thing[0]) and is_m(thing[1], thing[0])


def are_things(thing):
    """Of any plain thing: whether it may stand for the things of a book."""
    return are_rows(thing, is_held)


def are_marks(thing):
    """Of any plain thing: whether it may stand for the marks of a book."""
    return are_rows(thing, is_mark)


def are_fences(thing):
    return are_rows(thing, is_fence)


def are_cuts(thing):
    return are_rows(thing, is_cut)


def are_lefts(thing):
    """Of any plain thing: whether it may stand for the lefts of a book; a left is made as an ACK is."""
    return are_rows(thing, is_ack)


def is_head(thing):
    """Whether it may stand as the first five parts of a book: those that aren't rows."""
    if not is_row(thing, 5) or not is_seat(thing[SEAT]):
        return False
    counts = is_from(thing[TURN], 0) and is_from(thing[MADE], 0) and is_m(thing[BROUGHT], thing[SEAT])
    return counts and is_between(thing[ROOTS], 1, 4)


def is_book(thing):
    """Of any plain thing: whether it is a BOOK."""
    if not is_row(thing, 10) or not is_head(thing[:THINGS]):
        return False
    held = are_things(thing[THINGS]) and are_marks(thing[MARKS])
    return held and are_fences(thing[FENCES]) and are_cuts(thing[CUTS]) and are_lefts(thing[LEFTS])


def first_book(seat, roots):
    """The book with which a seat begins."""
    return (seat, roots, 0, 0, 0, (), (), (), (), ())


def all_dots(things, marks):
    """The dots of these things, of the dots within which they are, and of these marks, perhaps twice."""
    withins = [held[1][0] for held in things if held[1][0] != ()]
    return [row[0] for row in things + marks] + withins


def all_acks(marks):
    return [ack for mark in marks for ack in mark[1]]


def named_seats(book):
    """The seats that the book itself names, perhaps twice; without stems and elder children."""
    counted = [(book[SEAT], book[BROUGHT])]
    counted.extend([(row[0], row[-1]) for row in (*all_acks(book[MARKS]), *book[CUTS], *book[LEFTS])])
    seats = [(root,) for root in range(book[ROOTS])]
    seats.extend([dot[0] for dot in all_dots(book[THINGS], book[MARKS])])
    seats.extend([fence[0] for fence in book[FENCES]])
    seats.extend([row[0] for row in counted])
    seats.extend([seat + (m,) for seat, m in counted if m > 0])
    return seats


def note_with_kin(known, seat):
    """Notes the seat among the known ones, with its stems and the elder children beside each."""
    for stem in stems(seat):
        if len(stem) == 1:
            known[stem] = True
        elif stem not in known:
            for i in range(1, stem[-1] + 1):
                known[stem[:-1] + (i,)] = True


def known_seats(book):
    """The KNOWN seats of a book, rising."""
    known = {}
    for seat in named_seats(book):
        note_with_kin(known, seat)
    return tuple(sorted(known))


def first_true(truths):
    for k, truth in enumerate(truths):
        if truth:
            return k
    return -1


def twice_place(book):
    marked = {mark[0]: True for mark in book[MARKS]}
    return first_true([held[0] in marked for held in book[THINGS]])


def is_unmade(book, dot):
    """Whether it is a dot that the book's own seat has yet to put; () is none."""
    return dot != () and dot[0] == book[SEAT] and dot[1] > book[MADE]


def dot_place(book):
    things = [is_unmade(book, dot) or is_unmade(book, thing[0]) for dot, thing in book[THINGS]]
    return first_true(things + [is_unmade(book, mark[0]) for mark in book[MARKS]])


def lacks_own_ack(book, acks):
    for seat, a, m in acks:
        if seat == book[SEAT]:
            return a > book[TURN] or m > book[BROUGHT]
    return True


def own_place(book):
    parts = (book[FENCES], book[CUTS], book[LEFTS])
    return first_true([book[SEAT] in [row[0] for row in part] for part in parts])


def is_behind(seat, parent, m):
    """Whether the seat begins with a child of the parent above m."""
    return len(seat) > len(parent) and begins(seat, parent) and seat[len(parent)] > m


def child_place(book, known):
    above = [seat[-1] for seat in known if seat[:-1] == book[SEAT] and seat[-1] > book[BROUGHT]]
    return min(above, default=-1)


def lift(least, seat, number):
    least[seat] = max(number, least.get(seat, 0))


def left_place(book, known):
    """The first left that tells less letters or children of its seat than the book itself does."""
    letters = {}
    children = {}
    for seat, a, m in all_acks(book[MARKS]):
        lift(letters, seat, a)
        lift(children, seat, m)
    for seat, f in book[FENCES]:
        lift(letters, seat, f)
    for seat, m in book[CUTS]:
        lift(children, seat, m)
    for seat in known:
        lift(children, seat[:-1], seat[-1])
    return first_true([letters.get(seat, 0) > b or children.get(seat, 0) > m for seat, b, m in book[LEFTS]])


def right_book(thing):
    """Of any plain thing: True where it is a right book, else NoBook."""
    if not is_book(thing):
        raise NoBook("kind", 0)
    known = known_seats(thing)
    found = (
        ("root", first_true([seat[0] >= thing[ROOTS] for seat in known])),
        ("twice", twice_place(thing)),
        ("dot", dot_place(thing)),
        ("ack", first_true([lacks_own_ack(thing, mark[1]) for mark in thing[MARKS]])),
        ("own", own_place(thing)),
        ("passed", first_true([is_behind(thing[SEAT], cut[0], cut[1]) for cut in thing[CUTS]])),
        ("child", child_place(thing, known)),
        ("left", left_place(thing, known)),
    )
    for word, place in found:
        if place >= 0:
            raise NoBook(word, place)
    return True
