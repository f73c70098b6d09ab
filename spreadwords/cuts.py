"""What a machine takes behind a word, and ahead of one."""

from spreadwords.least import least
from spreadwords.machines import room_behind


def behind(machine, word):
    begin = room_behind(machine, machine[1], word)
    return least((machine[0], begin, machine[2], machine[3]))


def ahead(machine, word):
    ends = tuple([room for room in range(len(machine[3])) if room_behind(machine, room, word) in machine[2]])
    return least((machine[0], machine[1], ends, machine[3]))
