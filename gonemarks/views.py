"""What is shown of a book: things that stand within one another, from the top down."""

from gonemarks.kinds import THINGS


def shown_from_the_top(book):
    """The shown things, each one behind the one within which it is."""
    within = {}
    for dot, thing in book[THINGS]:
        within.setdefault(thing[0], []).append((dot, thing))
    found = []
    level = within.get((), [])
    while level:
        found.extend(level)
        level = [held for above in level for held in within.get(above[0], [])]
    return found


def shown(book):
    """The shown things, rising."""
    return tuple(sorted(shown_from_the_top(book)))


def shown_at(book, place):
    """The shown things that stand at the place, rising."""
    return [(dot, thing) for dot, thing in shown(book) if thing[0] == place]


def standing(book, place):
    """The dots of what stands at the place, rising."""
    return tuple(dot for dot, thing in shown_at(book, place))


def names_at(book, place):
    """The unlike names of what stands at the place, rising."""
    return tuple(sorted(set([thing[1] for dot, thing in shown_at(book, place)])))


def sum_at(book, place, name):
    """The sum of the values of all that stands at the place by this name."""
    return sum([thing[2] for dot, thing in shown_at(book, place) if thing[1] == name])


def row_at(book, place):
    """The dots of what stands at the place, by values, those of like values by dots."""
    return tuple(row[1] for row in sorted([(thing[2], dot) for dot, thing in shown_at(book, place)]))


def outline(book, place):
    """What stands at the place, and within it all that is shown, without dots.

    It is made from the bottom up, for things may stand within one another deeper than calls may.
    """
    outlines = {}
    for dot, (within, name, value) in shown_from_the_top(book)[::-1]:
        row = (name, value, tuple(sorted(outlines.get(dot, []))))
        outlines.setdefault(within, []).append(row)
    return tuple(sorted(outlines.get(place, [])))
