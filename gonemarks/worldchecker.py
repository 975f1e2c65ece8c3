"""The small checker of worlds: it seeks nothing, it looks page by page."""

from gonemarks.books import all_acks, all_dots, first_true, is_behind, right_book
from gonemarks.errors import NoBook, NoWorld
from gonemarks.kinds import ROOTS, SEAT, THINGS, has_head
from gonemarks.letters import is_right
from gonemarks.shields import bare
from gonemarks.worlds import all_counts, all_tellers, is_world, seats_of, sitting, sitting_entries


def has_just_its_seats(world):
    """Whether all roots, all children that were brought, and no other seats are there."""
    counts = all_counts(world)
    wanted = [(root,) for root in range(world[0])]
    for seat in counts:
        wanted.extend([seat + (i,) for i in range(1, counts[seat][2] + 1)])
    return sorted(wanted) == list(seats_of(world))


def is_book_here(world, entry):
    seat, book = entry
    try:
        right_book(book)
    except NoBook:
        return False
    return book[SEAT] == seat and book[ROOTS] == world[0]


def is_letter_here(counts, letter):
    seat, number = letter[:2]
    return is_right(letter) and seat in counts and number < counts[seat][0]


def pages_of(world):
    """Each page as (things, marks, fences, cuts, lefts); of a letter nothing stands for fences and cuts."""
    books = [book[THINGS:] for seat, book in sitting_entries(world)]
    return books + [(things, marks, (), (), lefts) for seat, number, things, marks, lefts in world[2]]


def names_others(counts, page):
    """Whether a seat stands in the page that isn't there, or a dot that its seat has yet to put."""
    things, marks, fences, cuts, lefts = page
    dots = all_dots(things, marks)
    if not all(row[0] in counts for row in (*dots, *all_acks(marks), *fences, *cuts, *lefts)):
        return True
    return any(k > counts[seat][1] for seat, k in dots)


def other_things(pages):
    """Of each page whether a dot has another thing there than on the page that first has it."""
    first = {}
    truths = []
    for page in pages:
        truths.append(any(first.get(dot, thing) != thing for dot, thing in page[0]))
        for dot, thing in page[0]:
            first.setdefault(dot, thing)
    return truths


def fences_are_so(counts, page):
    return all(f <= counts[seat][0] for seat, f in page[2])


def cuts_are_so(counts, page):
    return all(m <= counts[seat][2] for seat, m in page[3])


def lefts_are_so(counts, sits, page):
    """Whether each left's seat is off, with as many letters and children as it tells."""
    for seat, b, m in page[4]:
        turn, made, brought = counts[seat]
        if seat in sits or (turn, brought) != (b, m):
            return False
    return True


def looks_at(world, pages):
    """Of each dot that stands on some page, as a thing or a mark: the seats that are bare of a shield, the tellers."""
    told = all_tellers(world)
    looks = {}
    for page in pages:
        for row in page[0] + page[1]:
            if row[0] not in looks:
                telling = told.get(row[0], [])
                looks[row[0]] = (bare(world, row[0], telling), telling)
    return looks


def ack_is_true(counts, look, ack):
    """Whether an ACK is true of a dot, given the bare seats and the tellers of this one."""
    y, a, m = ack
    without, told = look
    turn, made, brought = counts[y]
    if a > turn or m > brought or any(seat == y or is_behind(seat, y, m) for seat in without):
        return False
    return not any((seat == y and number >= a) or is_behind(seat, y, m) for seat, number in told)


def with_untrue_acks(counts, looks, pages):
    """Of each page whether an ACK in it isn't true; one that stands on many pages is looked at once."""
    judged = {}
    truths = []
    for page in pages:
        rows = [(dot, ack) for dot, acks in page[1] for ack in acks]
        for dot, ack in rows:
            if (dot, ack) not in judged:
                judged[(dot, ack)] = ack_is_true(counts, looks[dot], ack)
        truths.append(not all(judged[row] for row in rows))
    return truths


def lost_its_own(looks, entry):
    """Whether the seat neither holds, nor is shielded for, a dot of its own.

    For a dot that is neither held nor told anywhere all are shielded, so only those on pages are looked at: made may
    be any number.
    """
    seat, book = entry
    return any(dot[0] == seat and seat in looks[dot][0] and not has_head(book[THINGS], dot) for dot in looks)


def refuse_where(word, truths):
    place = first_true(truths)
    if place >= 0:
        raise NoWorld(word, place)


def lets_world(thing):
    """Of any plain thing: True where it is a right world, else NoWorld."""
    if not is_world(thing):
        raise NoWorld("shape", -1)
    if not has_just_its_seats(thing):
        raise NoWorld("seats", -1)
    counts = all_counts(thing)
    entries = sitting_entries(thing)
    books_here = [is_book_here(thing, entry) for entry in entries]
    letters_here = [is_letter_here(counts, letter) for letter in thing[2]]
    refuse_where("page", [not here for here in books_here + letters_here])
    pages = pages_of(thing)
    refuse_where("named", [names_others(counts, page) for page in pages])
    refuse_where("thing", other_things(pages))
    refuse_where("fence", [not fences_are_so(counts, page) for page in pages])
    refuse_where("cut", [not cuts_are_so(counts, page) for page in pages])
    refuse_where("left", [not lefts_are_so(counts, sitting(thing), page) for page in pages])
    looks = looks_at(thing, pages)
    refuse_where("ack", with_untrue_acks(counts, looks, pages))
    refuse_where("own", [lost_its_own(looks, entry) for entry in entries])
    return True
