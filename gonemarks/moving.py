"""Moving: a book brings a child's, cuts a seat off, leaves by another one's, or looks into an elder one."""

from gonemarks.books import known_seats
from gonemarks.errors import NoDeed
from gonemarks.kinds import BROUGHT, CUTS, FENCES, LEFTS, MARKS, ROOTS, SEAT, THINGS, TURN, with_part
from gonemarks.letters import dots_of, tell_all
from gonemarks.names import child_of, is_seat
from gonemarks.taking import passes_over, take


def child_book(book, child):
    """The book with which a child of the book's seat begins: it takes none of its parent's elder letters."""
    marks = tuple((dot, tuple(sorted([*acks, (child, 0, 0)]))) for dot, acks in book[MARKS])
    own = [(book[SEAT], book[TURN])] if book[TURN] > 0 else []
    fences = tuple(sorted([*book[FENCES], *own]))
    return (child, book[ROOTS], 0, 0, 0, book[THINGS], marks, fences, book[CUTS], book[LEFTS])


def bring(book):
    """The book behind bringing its next child, and the child's book, else NoDeed."""
    brought = book[BROUGHT] + 1
    child = child_of(book[SEAT], brought)
    if child is None:
        raise NoDeed("deep")
    if brought > 99:
        raise NoDeed("many")
    return (with_part(book, BROUGHT, brought), child_book(book, child))


def cut(book, seat):
    """The book behind cutting the seat off, which may be any plain thing, else NoDeed."""
    known = known_seats(book)
    if not is_seat(seat) or seat not in known:
        raise NoDeed("seat")
    if seat == book[SEAT]:
        raise NoDeed("own")
    if passes_over(book, seat):
        raise NoDeed("again")
    # With a seat its stems are known, so the greatest known child tells the greatest i.
    m = max([other[-1] for other in known if other[:-1] == seat], default=0)
    return with_part(book, CUTS, tuple(sorted([*book[CUTS], (seat, m)])))


def leave(book, other):
    """The letter by which the book's seat leaves, and the other's book behind it, else NoDeed."""
    if book[SEAT] == other[SEAT]:
        raise NoDeed("own")
    if passes_over(other, book[SEAT]):
        raise NoDeed("over")
    behind, letter = tell_all(book)
    taken = take(other, letter)
    left = (book[SEAT], behind[TURN], behind[BROUGHT])
    return (letter, with_part(taken, LEFTS, tuple(sorted([*taken[LEFTS], left]))))


def doubtful(book, elder):
    """The things of the elder book of which the book knows nothing."""
    own = dots_of(book)
    return tuple(held for held in elder[THINGS] if held[0] not in own)
