"""Two texts that are alike to a length and parted by a machine, where it has a ring or two ways that stay apart."""

from spreadwords.least import least, parting_text
from spreadwords.machines import room_behind
from spreadwords.papers import paper_of, texts_from


def unlike_ways(paper, k):
    # In what is put k times all words of at most k of its letters lie spread, so the two ways are alike to k,
    # and stay so whatever is put ahead of both or behind both.
    if paper[0] == "ring":
        round_ways = (paper[2] + paper[3]) * k
        return (round_ways, round_ways + paper[2])
    same_end = paper[4] + (paper[2] + paper[3]) * k
    return (paper[2] + same_end, paper[3] + same_end)


def parting_rooms(machine, one, other):
    # Some text parts them: no two rooms of a least machine are alike.
    return parting_text((machine[0], one, machine[2], machine[3]), (machine[0], other, machine[2], machine[3]))


def sticks(machine, k):
    own = least(machine)
    paper = paper_of(own)
    if paper[0] == "spread":
        return None
    room = paper[1]
    begin = texts_from(own, own[1])[room]
    ways = unlike_ways(paper, k)
    end = parting_rooms(own, room_behind(own, room, ways[0]), room_behind(own, room, ways[1]))
    return (begin + ways[0] + end, begin + ways[1] + end)
