"""Machines put together: the contrary of one, both of two, either of two."""

from spreadwords.least import least
from spreadwords.machines import look_fit, pair_behind
from spreadwords.walks import machine_from


def contrary(machine):
    ends = tuple([room for room in range(len(machine[3])) if room not in machine[2]])
    return least((machine[0], machine[1], ends, machine[3]))


def both(one, other):
    look_fit(one, other)

    def step(pair, letter):
        return pair_behind(one, other, pair, letter)

    def is_end(pair):
        return pair[0] in one[2] and pair[1] in other[2]

    return least(machine_from(one[0], (one[1], other[1]), step, is_end))


def either(one, other):
    return contrary(both(contrary(one), contrary(other)))
