"""Whether a paper of a machine holds, whoever wrote it."""

from spreadwords.least import least
from spreadwords.machines import forks, room_behind


def is_there(machine, room):
    return 0 <= room < len(machine[3])


def of_letters(letters, text):
    return all([sign in letters for sign in text])


def is_fork(machine, room, one, other, word):
    # The letters as a list, so that no longer text counts as one of them.
    letters = list(machine[0])
    unlike = one in letters and other in letters and one != other
    return is_there(machine, room) and unlike and of_letters([one, other], word)


def ranks_rise(machine, ranks):
    for room, row in enumerate(machine[3]):
        if not all([there == room or ranks[there] > ranks[room] for there in row]):
            return False
    return True


def row_holds(machine, row):
    room = row[0]
    one = row[1]
    other = row[2]
    word = row[3]
    if not is_fork(machine, room, one, other, word) or one > other:
        return False
    return room_behind(machine, room, one + word) == room_behind(machine, room, other + word)


def spread_holds(machine, ranks, meets):
    if len(ranks) != len(machine[3]) or not ranks_rise(machine, ranks):
        return False
    if not all([row_holds(machine, row) for row in meets]):
        return False
    met = dict([(row[:3], True) for row in meets])
    return all([fork in met for fork in forks(machine)])


def ring_holds(machine, room, text, back):
    if not is_there(machine, room) or not of_letters(machine[0], text + back):
        return False
    other = room_behind(machine, room, text)
    return other != room and room_behind(machine, other, back) == room


def apart_stays(machine, room, one, other, word):
    if not is_fork(machine, room, one, other, word):
        return False
    here = room_behind(machine, room, one + word)
    there = room_behind(machine, room, other + word)
    stay = [room_behind(machine, end, letter) == end for end, letter in
            ((here, one), (here, other), (there, one), (there, other))]
    return here != there and all(stay)


def paper_holds(machine, paper):
    own = least(machine)
    if paper[0] == "spread":
        return spread_holds(own, paper[1], paper[2])
    if paper[0] == "ring":
        return ring_holds(own, paper[1], paper[2], paper[3])
    return apart_stays(own, paper[1], paper[2], paper[3], paper[4])
