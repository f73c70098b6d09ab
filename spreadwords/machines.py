"""Machines that read texts: (letters, begin, ends, steps)."""

from spreadwords.errors import NoFit, NoMachine
from spreadwords.words import is_letters, rising

MOST_ROOMS = 6


def all_there(rooms, count):
    return all([0 <= room < count for room in rooms])


def look_steps(letters, steps):
    for number, row in enumerate(steps):
        if len(row) != len(letters) or not all_there(row, len(steps)):
            raise NoMachine("steps", number)


def look_machine(machine):
    letters = machine[0]
    ends = machine[2]
    steps = machine[3]
    if not is_letters(letters):
        raise NoMachine("letters", len(letters))
    if not 1 <= len(steps) <= MOST_ROOMS:
        raise NoMachine("rooms", len(steps))
    if not 0 <= machine[1] < len(steps):
        raise NoMachine("begin", 0)
    if not (rising(ends) and all_there(ends, len(steps))):
        raise NoMachine("ends", len(ends))
    look_steps(letters, steps)
    return True


def room_behind(machine, room, text):
    letters = machine[0]
    steps = machine[3]
    behind = room
    for letter in text:
        behind = steps[behind][letters.index(letter)]
    return behind


def takes(machine, text):
    return room_behind(machine, machine[1], text) in machine[2]


def look_fit(one, other):
    if one[0] != other[0]:
        raise NoFit()


def forks(machine):
    # Each room with each two letters, in order.
    letters = machine[0]
    told = []
    for room in range(len(machine[3])):
        for place, letter in enumerate(letters):
            told.extend([(room, letter, later) for later in letters[place + 1:]])
    return told


def pair_behind(one, other, pair, letter):
    return (room_behind(one, pair[0], letter), room_behind(other, pair[1], letter))
