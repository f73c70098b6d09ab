"""A machine's text, written and read."""

from spreadwords.errors import NoText
from spreadwords.words import is_word, rising

MOST_FIGURES = 3
ROWS_AHEAD = 3


def show_row(name, numbers):
    return " ".join([name] + [str(number) for number in numbers])


def show_machine(machine):
    rows = ["letters " + machine[0], show_row("begin", [machine[1]]), show_row("ends", machine[2])]
    rows.extend([show_row("room", row) for row in machine[3]])
    return "\n".join(rows)


def is_number(word):
    figures = all(["0" <= sign <= "9" for sign in word])
    return figures and 1 <= len(word) <= MOST_FIGURES and (word == "0" or word[0] != "0")


def read_letters(row):
    words = row.split(" ")
    if len(words) != 2 or words[0] != "letters":
        raise NoText(0)
    letters = words[1]
    if letters == "" or not (is_word(letters) and rising(letters)):
        raise NoText(0)
    return letters


def read_numbers(rows, at, name):
    # at is never more than how many rows there are, so it also says that the row lacks.
    if at == len(rows):
        raise NoText(at)
    words = rows[at].split(" ")
    if words[0] != name or not all([is_number(word) for word in words[1:]]):
        raise NoText(at)
    return tuple([int(word) for word in words[1:]])


def read_so_many(rows, at, name, count):
    numbers = read_numbers(rows, at, name)
    if len(numbers) != count:
        raise NoText(at)
    return numbers


def read_machine(text):
    rows = text.split("\n")
    letters = read_letters(rows[0])
    begin = read_so_many(rows, 1, "begin", 1)[0]
    ends = read_numbers(rows, 2, "ends")
    # One room is read even where no row is left, as it lacks then.
    last = max(len(rows), ROWS_AHEAD + 1)
    steps = [read_so_many(rows, at, "room", len(letters)) for at in range(ROWS_AHEAD, last)]
    return (letters, begin, ends, tuple(steps))
