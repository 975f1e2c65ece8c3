"""A desk: a world of which rows are told, and which answers with texts."""

from gonemarks.alike import are_alike
from gonemarks.backchecker import is_right_world
from gonemarks.deeds import done, walked
from gonemarks.errors import NoRow
from gonemarks.going import paper_for
from gonemarks.gone import gone_dots, state_of
from gonemarks.kinds import MARKS, TURN, has_head, is_between
from gonemarks.knowing import lacking
from gonemarks.letters import dots_of
from gonemarks.meetings import meeting, rounds
from gonemarks.names import child_of, is_name
from gonemarks.taking import is_passed
from gonemarks.texts import dot_text, number_text, place_text, read_dot, read_number, read_place, read_seat, seat_text
from gonemarks.views import names_at, row_at, shown, sum_at
from gonemarks.worlds import book_of, counts_of, first_world, letter_of, seats_of, sitting


def read_sitting(world, word):
    seat = read_seat(word)
    return seat if seat in sitting(world) else None


def read_from(world, word):
    seat = read_seat(word)
    return seat if seat in seats_of(world) else None


def read_a_dot(world, word):
    return read_dot(word)


def read_a_place(world, word):
    return read_place(word)


def read_name(world, word):
    return word if is_name(word) else None


def read_value(world, word):
    value = read_number(word)
    return value if is_between(value, -999, 999) else None


def read_letter_number(world, word):
    number = read_number(word)
    return number if is_between(number, 0, 999999999) else None


READERS = {"SEAT": read_sitting, "FROM": read_from, "DOT": read_a_dot, "PLACE": read_a_place, "NAME": read_name,
           "VALUE": read_value, "NUMBER": read_letter_number}

FORMS = {
    "put": ("SEAT", "PLACE", "NAME", "VALUE"), "out": ("SEAT", "DOT"), "tell": ("SEAT",),
    "take": ("SEAT", "FROM", "NUMBER"), "go": ("SEAT", "DOT"), "bring": ("SEAT",), "cut": ("SEAT", "FROM"),
    "leave": ("SEAT", "SEAT"), "fall": ("SEAT",), "meet": ("SEAT", "SEAT"), "rounds": (), "shown": ("SEAT",),
    "names": ("SEAT", "PLACE"), "row": ("SEAT", "PLACE"), "sum": ("SEAT", "PLACE", "NAME"), "marks": ("SEAT",),
    "alike": ("SEAT", "SEAT"), "state": ("DOT",), "gone": (), "check": (),
}


def read_word(world, kind, word):
    """What the word writes, as one of this kind, or None."""
    reader = READERS[kind]
    return reader(world, word)


def read_told(world, row):
    """The row's first word, and what the others write, else NoRow."""
    words = row.split(" ")
    form = FORMS.get(words[0])
    if form is None or len(words) != len(form) + 1:
        raise NoRow(row)
    told = [read_word(world, kind, word) for kind, word in zip(form, words[1:])]
    if None in told:
        raise NoRow(row)
    return (words[0], told)


def listed(texts, between):
    return between.join(texts) if texts else "-"


def dots_listed(dots):
    return listed([dot_text(dot) for dot in dots], " ")


def seats_listed(seats):
    return listed([seat_text(seat) for seat in seats], " ")


def held_text(held):
    dot, (within, name, value) = held
    return " ".join([dot_text(dot), place_text(within), name, number_text(value)])


def yes_or_no(truth):
    return "yes" if truth else "no"


def say_put(world, seat, place, name, value):
    behind = done(world, ("put", seat, (place, name, value)))
    return (behind, dot_text((seat, counts_of(behind, seat)[1])))


def say_out(world, seat, dot):
    return (done(world, ("out", seat, dot)), "ok")


def say_tell(world, seat):
    book = book_of(world, seat)
    return (done(world, ("tell", seat, dots_of(book))), number_text(book[TURN]))


def say_take(world, seat, sender, number):
    behind = done(world, ("take", seat, (sender, number)))
    passed = is_passed(book_of(world, seat), letter_of(world, (sender, number)))
    return (behind, "passed" if passed else "ok")


def say_go(world, seat, dot):
    book = book_of(world, seat)
    paper = paper_for(book, dot)
    # Of a dot that isn't marked nothing is kept: the deed is refused, ahead of all looks at the paper.
    if paper is None and has_head(book[MARKS], dot):
        return (world, f"keep {seats_listed(lacking(book, dot))}")
    return (done(world, ("go", seat, dot, paper)), "ok")


def say_bring(world, seat):
    behind = done(world, ("bring", seat))
    return (behind, seat_text(child_of(seat, counts_of(behind, seat)[2])))


def say_cut(world, seat, other):
    return (done(world, ("cut", seat, other)), "ok")


def say_leave(world, seat, other):
    return (done(world, ("leave", seat, other)), "ok")


def say_fall(world, seat):
    return (done(world, ("fall", seat)), "ok")


def say_meet(world, x, y):
    return (walked(world, meeting(world, x, y)), "ok")


def say_rounds(world):
    return (walked(world, rounds(world)), "ok")


def say_shown(world, seat):
    return (world, listed([held_text(held) for held in shown(book_of(world, seat))], ", "))


def say_names(world, seat, place):
    return (world, listed(names_at(book_of(world, seat), place), " "))


def say_row(world, seat, place):
    return (world, dots_listed(row_at(book_of(world, seat), place)))


def say_sum(world, seat, place, name):
    return (world, number_text(sum_at(book_of(world, seat), place, name)))


def say_marks(world, seat):
    return (world, dots_listed([mark[0] for mark in book_of(world, seat)[MARKS]]))


def say_alike(world, x, y):
    return (world, yes_or_no(are_alike(book_of(world, x), book_of(world, y))))


def say_state(world, dot):
    return (world, state_of(world, dot))


def say_gone(world):
    return (world, dots_listed(gone_dots(world)))


def say_check(world):
    return (world, yes_or_no(is_right_world(world)))


SAYINGS = {"put": say_put, "out": say_out, "tell": say_tell, "take": say_take, "go": say_go, "bring": say_bring,
           "cut": say_cut, "leave": say_leave, "fall": say_fall, "meet": say_meet, "rounds": say_rounds,
           "shown": say_shown, "names": say_names, "row": say_row, "sum": say_sum, "marks": say_marks,
           "alike": say_alike, "state": say_state, "gone": say_gone, "check": say_check}


class Desk:
    """A world, at first the first one of its roots, to which rows are told."""

    def __init__(self, roots):
        self.world = first_world(roots)

    def say(self, row):
        """The answer to the row; where it is refused the world stays as it was."""
        word, told = read_told(self.world, row)
        saying = SAYINGS[word]
        self.world, answer = saying(self.world, *told)
        return answer
