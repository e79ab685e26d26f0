"""Texts: how a wall is written, and which texts are read."""

from restfold.clocks import is_clock
from restfold.errors import BadText
from restfold.walls import MOST_CLOCKS, wall_needed, wall_with

MOST_NUMBER = 10 ** 9
# As many as 10 ** 30 has, the widest number that is read.
MOST_FIGURES = 31


def wall_text(wall):
    """The text that writes the wall."""
    wall_needed(wall)
    rows = [f"clock {number} {hours} {hour}" for number, (hours, hour) in wall.clocks()]
    rows.append(f"given {wall.given}")
    return "\n".join(rows)


def wall_of(text):
    """The wall that the text writes; BadText with the first row that can't stand there."""
    if type(text) is not str:
        raise BadText(0)
    rows = text.split("\n")
    clocks = leading_clocks(rows)
    # The first row that can't stand as a clock's has to be the one of the numbers given, and the last one.
    at = len(clocks)
    given = read_given(rows[at]) if at < len(rows) else None
    if given is None or given < last_number(clocks):
        raise BadText(at + 1)
    if at + 1 < len(rows):
        raise BadText(at + 2)
    return wall_with(clocks, given)


def leading_clocks(rows):
    """The tuples (number, clock) of the first rows, as far as each can stand as a clock's row."""
    clocks = []
    for row in rows:
        read = read_clock(row)
        if read is None or read[0] <= last_number(clocks) or len(clocks) == MOST_CLOCKS:
            return clocks
        clocks.append(read)
    return clocks


def last_number(clocks):
    """The number of the last one of these tuples (number, clock), 0 where there is none."""
    if len(clocks) == 0:
        return 0
    return clocks[-1][0]


def read_clock(row):
    """The tuple (number, clock) of a row of a clock, None of any other row."""
    words = row.split(" ")
    if len(words) != 4 or words[0] != "clock":
        return None
    number, hours, hour = [read_number(word) for word in words[1:]]
    clock = (hours, hour)
    if number is None or number > MOST_NUMBER or not is_clock(clock):
        return None
    return number, clock


def read_given(row):
    """The number of a row of the numbers given, None of any other row."""
    words = row.split(" ")
    if len(words) != 2 or words[0] != "given":
        return None
    number = read_number(words[1])
    if number is None or number > MOST_NUMBER:
        return None
    return number


def read_number(word):
    """The number that the word writes by figures, None of a word that can't stand for one."""
    # Longer words are told by their length alone, as Python doesn't read numbers of any width.
    if not word.isascii() or not word.isdigit() or len(word) > MOST_FIGURES:
        return None
    if word[0] == "0" and word != "0":
        return None
    return int(word)
