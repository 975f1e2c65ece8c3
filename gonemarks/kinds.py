"""What all modules share: where a book has its parts, and the looks at numbers and rows."""

SEAT = 0
ROOTS = 1
TURN = 2
MADE = 3
BROUGHT = 4
THINGS = 5
MARKS = 6
FENCES = 7
CUTS = 8
LEFTS = 9


def is_whole(thing):
    """Whether it is a whole number; a truth is none, though Python counts it as an int."""
    return isinstance(thing, int) and not isinstance(thing, bool)


def is_from(thing, least):
    return is_whole(thing) and thing >= least


def is_between(thing, least, most):
    return is_whole(thing) and least <= thing <= most


def is_m(thing, seat):
    """Whether it may count the children of this seat; one of five numbers can't have any."""
    return is_between(thing, 0, 0 if len(seat) == 5 else 99)


def is_row(thing, size):
    return isinstance(thing, tuple) and len(thing) == size


def rise(items):
    """Whether each item is greater than the one ahead: sorted, and none twice."""
    return all(items[k] < items[k + 1] for k in range(len(items) - 1))


def are_rows(thing, is_one):
    """Whether it is a rising tuple of such rows; kinds come first, so that heads can be compared."""
    return isinstance(thing, tuple) and all(is_one(row) for row in thing) and rise([row[0] for row in thing])


def has_head(rows, head):
    """Whether one of the rows has this dot, or this seat, ahead."""
    return any(row[0] == head for row in rows)


def with_part(book, at, part):
    """The book with another part in this place."""
    return book[:at] + (part,) + book[at + 1:]
