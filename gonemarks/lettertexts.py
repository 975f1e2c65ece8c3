"""Letters as lines, and read from them."""

from gonemarks.errors import NoLines
from gonemarks.kinds import has_head, is_from, is_row
from gonemarks.names import is_seat
from gonemarks.texts import counts_words, may_follow, part_lines, read_counts, read_row, rows_of_word

LETTER_WORDS = ("thing", "mark", "left")


def letter_lines(letter):
    """The lines that write a letter."""
    lines = [" ".join(["letter", *counts_words(letter[:2])])]
    for word, part in zip(LETTER_WORDS, letter[2:]):
        lines.extend(part_lines(word, part))
    return lines


def read_first(text):
    """The letter's seat and number that the text writes as a first line, or None."""
    words = text.split(" ")
    told = read_counts(words[1:])
    if words[0] != "letter" or not is_row(told, 2):
        return None
    return told if is_seat(told[0]) and is_from(told[1], 0) else None


def may_be_told(row, rows, seat):
    """Whether a ROW may stand in a letter of this seat, behind the rows ahead of it."""
    if row[0] not in LETTER_WORDS or (rows and not may_follow(row, rows[-1])):
        return False
    return row[0] != "mark" or has_head(row[1][1], seat)


def read_letter(lines):
    """The LETTER that the lines write, right or not, else NoLines."""
    first = read_first(lines[0]) if lines else None
    if first is None:
        raise NoLines(0)
    rows = []
    for k in range(1, len(lines)):
        row = read_row(lines[k])
        if row is None or not may_be_told(row, rows, first[0]):
            raise NoLines(k)
        rows.append(row)
    return first + tuple(rows_of_word(rows, word) for word in LETTER_WORDS)
