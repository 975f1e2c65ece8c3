"""Numbers, seats, dots, rows and books as texts, and read from them."""

from gonemarks.books import are_cuts, are_fences, are_lefts, are_marks, are_things, is_head
from gonemarks.errors import NoLines
from gonemarks.kinds import THINGS
from gonemarks.names import is_dot, is_seat

FIGURES = "0123456789"
HEAD_WORDS = ("seat", "of", "turn", "made", "brought")
THING_WORDS = ("thing", "in", "name", "value")
ORDER = ("seat", "thing", "mark", "fence", "cut", "left")


def number_text(number):
    return str(number)


def seat_text(seat):
    return ".".join([number_text(number) for number in seat])


def dot_text(dot):
    return f"{seat_text(dot[0])}:{number_text(dot[1])}"


def read_number(text):
    """The whole number that the text writes, or None."""
    figures = text[1:] if text.startswith("-") else text
    if not 1 <= len(figures) <= 40 or not all(sign in FIGURES for sign in figures):
        return None
    if figures.startswith("0") and text != "0":
        return None
    return int(text)


def read_seat(text):
    """The seat that the text writes, or None."""
    seat = tuple(read_number(part) for part in text.split("."))
    return seat if is_seat(seat) else None


def read_dot(text):
    """The dot that the text writes, or None."""
    parts = text.split(":")
    if len(parts) != 2:
        return None
    dot = (read_seat(parts[0]), read_number(parts[1]))
    return dot if is_dot(dot) else None


def place_text(place):
    """The text of a dot, or of ()."""
    return "-" if place == () else dot_text(place)


def read_place(text):
    """The dot, or (), that the text writes, or None."""
    return () if text == "-" else read_dot(text)


def counts_words(row):
    """The words of a seat and the numbers behind it."""
    return [seat_text(row[0])] + [number_text(number) for number in row[1:]]


def paired(words, others):
    """The words, each with its other one behind it."""
    return [word for pair in zip(words, others) for word in pair]


def thing_words(held):
    dot, (within, name, value) = held
    return paired(THING_WORDS, [dot_text(dot), place_text(within), name, number_text(value)])


def mark_words(mark):
    words = ["mark", dot_text(mark[0])]
    for ack in mark[1]:
        words.extend(["by", *counts_words(ack)])
    return words


def row_text(row):
    """The line that writes a ROW."""
    word, what = row
    if word == "seat":
        words = paired(HEAD_WORDS, counts_words(what))
    elif word == "thing":
        words = thing_words(what)
    elif word == "mark":
        words = mark_words(what)
    else:
        words = [word, *counts_words(what)]
    return " ".join(words)


def read_counts(words):
    """A seat and the numbers behind it; a word that writes none is read as None, which fits no kind."""
    return tuple([read_seat(word) for word in words[:1]] + [read_number(word) for word in words[1:]])


def read_head(words):
    if len(words) != 10 or tuple(words[0::2]) != HEAD_WORDS:
        return None
    head = read_counts(words[1::2])
    return head if is_head(head) else None


def read_thing(words):
    if len(words) != 8 or tuple(words[0::2]) != THING_WORDS:
        return None
    dot, place, name, value = words[1::2]
    held = (read_dot(dot), (read_place(place), name, read_number(value)))
    return held if are_things((held,)) else None


def read_mark(words):
    if len(words) % 4 != 2 or not all(word == "by" for word in words[2::4]):
        return None
    acks = [read_counts(words[k + 1:k + 4]) for k in range(2, len(words), 4)]
    mark = (read_dot(words[1]), tuple(acks))
    return mark if are_marks((mark,)) else None


def read_fence(words):
    fence = read_counts(words[1:])
    return fence if are_fences((fence,)) else None


def read_cut(words):
    cut = read_counts(words[1:])
    return cut if are_cuts((cut,)) else None


def read_left(words):
    left = read_counts(words[1:])
    return left if are_lefts((left,)) else None


READERS = {"seat": read_head, "thing": read_thing, "mark": read_mark, "fence": read_fence, "cut": read_cut,
           "left": read_left}


def read_row(text):
    """The ROW that the text writes, or None."""
    words = text.split(" ")
    if words[0] not in READERS:
        return None
    reader = READERS[words[0]]
    what = reader(words)
    return None if what is None else (words[0], what)


def part_lines(word, part):
    """The lines that write a part of a book or a letter, each of them as a ROW of this word."""
    return [row_text((word, what)) for what in part]


def book_lines(book):
    """The lines that write a book."""
    lines = [row_text(("seat", book[:THINGS]))]
    for word, part in zip(ORDER[1:], book[THINGS:]):
        lines.extend(part_lines(word, part))
    return lines


def may_follow(row, last):
    """Whether a row may stand right behind the last one, as a book's lines have them."""
    if row[0] == last[0]:
        return row[0] != "seat" and row[1][0] > last[1][0]
    return ORDER.index(row[0]) > ORDER.index(last[0])


def may_stand(row, ahead):
    """Whether a row may stand behind the rows ahead of it, as a book's lines have them."""
    return may_follow(row, ahead[-1]) if ahead else row[0] == "seat"


def read_rows(lines):
    """The ROWs that the lines write, each where it may stand, else NoLines."""
    rows = []
    for k, line in enumerate(lines):
        row = read_row(line)
        if row is None or not may_stand(row, rows):
            raise NoLines(k)
        rows.append(row)
    return rows


def rows_of_word(rows, word):
    return tuple(row[1] for row in rows if row[0] == word)


def read_book(lines):
    """The BOOK that the lines write, right or not, else NoLines."""
    rows = read_rows(lines)
    if not rows:
        raise NoLines(0)
    head = rows[0][1]
    return head + tuple(rows_of_word(rows, word) for word in ORDER[1:])
