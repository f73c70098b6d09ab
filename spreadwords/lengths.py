"""Texts that are alike to a length and parted by a machine, and the least length for which there are none."""

from spreadwords.joined import contrary
from spreadwords.machines import room_behind
from spreadwords.walks import walked


def most_length(count):
    # The greatest length of words that is asked for so many letters.
    return 3 if count <= 2 else 2


def words_behind(words, letter, k):
    longer = [word + letter for word in words if len(word) < k]
    return tuple(sorted(set(list(words) + longer)))


def taken_words(machine, k):
    # Texts are alike to k where the same words of at most k letters lie spread in them: so by each such row of words
    # the first text that the machine takes.
    def step(place, letter):
        return (words_behind(place[0], letter, k), room_behind(machine, place[1], letter))

    texts = walked(machine[0], (("",), machine[1]), step)
    told = {}
    for place in texts:
        if place[1] in machine[2]:
            told.setdefault(place[0], texts[place])
    return told


def alike_texts(here, there):
    # Of what taken_words tells of two machines: two texts that are alike, one of each.
    for words in here:
        if words in there:
            return (here[words], there[words])
    return None


def parted_at(machine, k):
    return alike_texts(taken_words(machine, k), taken_words(contrary(machine), k))


def least_length(machine):
    for k in range(most_length(len(machine[0])) + 1):
        if parted_at(machine, k) is None:
            return k
    return None
