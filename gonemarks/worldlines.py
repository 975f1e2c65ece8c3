"""Worlds as lines, and read from them."""

from gonemarks.errors import NoLines
from gonemarks.kinds import SEAT, is_between, is_from, is_row
from gonemarks.lettertexts import letter_lines, read_letter
from gonemarks.names import is_seat
from gonemarks.texts import book_lines, counts_words, number_text, read_book, read_counts, read_number, seat_text
from gonemarks.worlds import is_entry, is_off


def entry_lines(entry):
    """The lines that write a seat: with its book, or with its counts where it is off."""
    seat, page = entry
    if is_off(entry):
        return [" ".join(["off", *counts_words((seat, *page))])]
    lines = book_lines(page)
    return [f"sits {seat_text(seat)} {number_text(len(lines))}", *lines]


def world_lines(world):
    """The lines that write a world."""
    roots, seats, letters = world
    lines = [f"world {number_text(roots)}"]
    for entry in seats:
        lines.extend(entry_lines(entry))
    for letter in letters:
        told = letter_lines(letter)
        lines.extend([f"letter {number_text(len(told))}", *told])
    return lines


def read_counted(words, word):
    """The number behind a word that has nothing else behind it, or None."""
    return read_number(words[1]) if len(words) == 2 and words[0] == word else None


def read_roots(lines):
    """The roots that the first line tells, else NoLines."""
    roots = read_counted(lines[0].split(" "), "world") if lines else None
    if not is_between(roots, 1, 4):
        raise NoLines(0)
    return roots


def read_sits(words):
    """A seat that sits and how many lines its book has, or None."""
    told = read_counts(words[1:])
    fits = is_row(told, 2) and is_seat(told[0]) and is_from(told[1], 0)
    return told if fits else None


def read_off(words):
    """A seat that is off, with its counts, or None."""
    told = read_counts(words[1:])
    entry = (*told[:1], told[1:])
    return entry if is_entry(entry) else None


def read_letters_size(words):
    """How many lines a letter has, or None."""
    many = read_counted(words, "letter")
    return many if is_from(many, 0) else None


HEADS = {"sits": read_sits, "off": read_off, "letter": read_letters_size}


def read_line(text):
    """What a line tells that no book or letter has: (word, what), or None."""
    words = text.split(" ")
    if words[0] not in HEADS:
        return None
    reader = HEADS[words[0]]
    what = reader(words)
    return None if what is None else (words[0], what)


def may_come(head, seats, letters):
    """Whether such a line may come behind these seats and letters."""
    if head[0] == "letter":
        return True
    return not letters and (not seats or head[1][0] > seats[-1][0])


def read_part(lines, at, many, reader):
    """What the reader reads from so many lines behind the one at this place, else NoLines."""
    part = lines[at + 1:at + 1 + min(many, len(lines))]
    try:
        told = reader(part)
    except NoLines as e:
        raise NoLines(at + 1 + e.row)
    if len(part) < many:
        raise NoLines(len(lines))
    return told


def read_sitting(lines, at, sits):
    """The seat with its book, that the lines behind this one write, else NoLines."""
    seat, many = sits
    book = read_part(lines, at, many, read_book)
    if book[SEAT] != seat:
        raise NoLines(at)
    return (seat, book)


def read_next_letter(lines, at, many, letters):
    """The letter that the lines behind this one write, to come behind these letters, else NoLines."""
    letter = read_part(lines, at, many, read_letter)
    if letters and letter[:2] <= letters[-1][:2]:
        raise NoLines(at)
    return letter


def read_world(lines):
    """The WORLD that the lines write, right or not, else NoLines."""
    roots = read_roots(lines)
    seats = []
    letters = []
    at = 1
    while at < len(lines):
        head = read_line(lines[at])
        if head is None or not may_come(head, seats, letters):
            raise NoLines(at)
        word, what = head
        if word == "letter":
            letters.append(read_next_letter(lines, at, what, letters))
            at += what
        elif word == "sits":
            seats.append(read_sitting(lines, at, what))
            at += what[1]
        else:
            seats.append(what)
        at += 1
    return (roots, tuple(seats), tuple(letters))
