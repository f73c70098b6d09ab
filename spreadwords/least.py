"""A machine's least one, and the first text that parts two machines."""

from spreadwords.machines import look_fit, pair_behind, room_behind
from spreadwords.walks import machine_from, walked


def first_like(rows):
    firsts = {}
    return [firsts.setdefault(row, number) for number, row in enumerate(rows)]


def like_rooms(machine):
    # For each room the first one from which the same texts lead to ends: at first by the text without letters,
    # then by texts of one letter more each time, until no two rooms are parted that weren't.
    steps = machine[3]
    likes = first_like([room in machine[2] for room in range(len(steps))])
    count = 0
    while len(set(likes)) > count:
        count = len(set(likes))
        rows = []
        for room, row in enumerate(steps):
            rows.append(tuple([likes[room]] + [likes[ahead] for ahead in row]))
        likes = first_like(rows)
    return likes


def least(machine):
    likes = like_rooms(machine)

    def step(room, letter):
        return likes[room_behind(machine, room, letter)]

    return machine_from(machine[0], likes[machine[1]], step, lambda room: room in machine[2])


def parting_text(one, other):
    look_fit(one, other)
    begins = (one[1], other[1])
    texts = walked(one[0], begins, lambda pair, letter: pair_behind(one, other, pair, letter))
    for pair in texts:
        if (pair[0] in one[2]) != (pair[1] in other[2]):
            return texts[pair]
    return None
