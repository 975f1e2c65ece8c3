"""A book's own deeds: a thing is put in, or taken out with all that goes with it."""

from gonemarks.errors import NoDeed
from gonemarks.kinds import BROUGHT, MADE, MARKS, SEAT, THINGS, TURN, has_head, with_part


def thing_of(book, dot):
    """The THING that the book holds by the dot, or None."""
    for held, thing in book[THINGS]:
        if held == dot:
            return thing
    return None


def put(book, thing):
    """The book behind putting the thing, and the dot by which it holds it, else NoDeed."""
    if thing[0] != () and not has_head(book[THINGS], thing[0]):
        raise NoDeed("within")
    dot = (book[SEAT], book[MADE] + 1)
    things = tuple(sorted([*book[THINGS], (dot, thing)]))
    return (with_part(with_part(book, MADE, dot[1]), THINGS, things), dot)


def going_with(book, dot):
    """The dots of all held things that go with the held dot, rising; () where it isn't held."""
    going = {}
    level = [held for held, thing in book[THINGS] if held == dot]
    while level:
        for held in level:
            going[held] = True
        level = [held for held, thing in book[THINGS] if thing[0] in going and held not in going]
    return tuple(sorted(going))


def out(book, dot):
    """The book behind taking the dot's thing out, with all that goes with it, else NoDeed."""
    going = going_with(book, dot)
    if not going:
        raise NoDeed("held")
    things = tuple(held for held in book[THINGS] if held[0] not in going)
    own = (book[SEAT], book[TURN], book[BROUGHT])
    marks = tuple(sorted([*book[MARKS], *[(gone, (own,)) for gone in going]]))
    return with_part(with_part(book, THINGS, things), MARKS, marks)
