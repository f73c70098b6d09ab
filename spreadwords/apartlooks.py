"""Whether what is told of two machines is so."""

from spreadwords.joined import both, contrary
from spreadwords.machines import takes
from spreadwords.parted import alike
from spreadwords.wished import machine_of
from spreadwords.wishes import words_in


def takes_none(machine):
    # Of a least machine: texts lead to each of its rooms.
    return machine[2] == ()


def wish_parts(one, other, k, wish):
    if not all([len(word) <= k for word in words_in(wish)]):
        return False
    own = machine_of(one[0], wish)
    return takes_none(both(one, contrary(own))) and takes_none(both(other, own))


def apart_holds(one, other, k, told):
    if told[0] == "wish":
        return wish_parts(one, other, k, told[1])
    return alike(told[1], told[2], k) and takes(one, told[1]) and takes(other, told[2])
