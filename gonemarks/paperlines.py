"""Papers as lines, and read from them."""

from gonemarks.errors import NoLines
from gonemarks.gochecker import is_paper
from gonemarks.texts import number_text, read_number, read_seat, seat_text


def paper_row_text(row):
    seat, word, n, m = row
    numbers = [m] if word == "cut" else [n, m]
    return " ".join([seat_text(seat), word] + [number_text(number) for number in numbers])


def paper_lines(paper):
    """The lines that write a paper."""
    return [paper_row_text(row) for row in paper]


def read_paper_row(text):
    """The row that the text writes; where it writes none, something that no paper has as a row."""
    words = text.split(" ")
    if len(words) == 3 and words[1] == "cut":
        return (read_seat(words[0]), "cut", 0, read_number(words[2]))
    if len(words) == 4 and words[1] != "cut":
        return (read_seat(words[0]), words[1], read_number(words[2]), read_number(words[3]))
    return None


def read_paper(lines):
    """The PAPER that the lines write, else NoLines."""
    rows = []
    for k, line in enumerate(lines):
        row = read_paper_row(line)
        if not is_paper((*rows[-1:], row)):
            raise NoLines(k)
        rows.append(row)
    return tuple(rows)
