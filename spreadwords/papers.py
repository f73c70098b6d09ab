"""Papers of a machine: ranks and meeting words, or a ring, or two ways that stay apart."""

from spreadwords.least import least
from spreadwords.machines import forks, pair_behind, room_behind
from spreadwords.walks import walked


def texts_from(machine, room):
    return walked(machine[0], room, lambda place, letter: room_behind(machine, place, letter))


def ring_at(machine, room):
    for letter in machine[0]:
        texts = texts_from(machine, room_behind(machine, room, letter))
        # The text without letters leads back only where the letter didn't lead away.
        if texts.get(room, "") != "":
            return ("ring", room, letter, texts[room])
    return None


def ring_in(machine):
    for room in range(len(machine[3])):
        ring = ring_at(machine, room)
        if ring is not None:
            return ring
    return None


def ranks_of(machine):
    # A room's rank is the length of the longest way to it, so it is put anew as long as longer ways lead there;
    # where there is no ring this comes to an end.
    ranks = [0] * len(machine[3])
    level = [machine[1]]
    length = 0
    while level:
        ahead = []
        for room in level:
            ranks[room] = length
            ahead.extend([there for there in machine[3][room] if there != room])
        level = sorted(set(ahead))
        length = length + 1
    return tuple(ranks)


def fork_words(machine, fork):
    # By each pair of rooms that a word of the fork's two letters leads to, from where they lead, the first such word.
    begin = (room_behind(machine, fork[0], fork[1]), room_behind(machine, fork[0], fork[2]))
    return walked(fork[1] + fork[2], begin, lambda pair, letter: pair_behind(machine, machine, pair, letter))


def meeting_word(words):
    for pair in words:
        if pair[0] == pair[1]:
            return words[pair]
    return None


def staying_word(machine, fork, words):
    # Where there is no ring, the two letters by turns lead at last to rooms from which neither leads away.
    for pair in words:
        if all([pair_behind(machine, machine, pair, letter) == pair for letter in fork[1:]]):
            return words[pair]
    return None


def paper_of(machine):
    own = least(machine)
    ring = ring_in(own)
    if ring is not None:
        return ring
    meets = []
    for fork in forks(own):
        words = fork_words(own, fork)
        word = meeting_word(words)
        if word is None:
            return ("apart",) + fork + (staying_word(own, fork, words),)
        meets.append(fork + (word,))
    return ("spread", ranks_of(own), tuple(meets))


def longest_way(machine):
    paper = paper_of(machine)
    if paper[0] != "spread":
        return None
    # The ranks that are told here are lengths of ways.
    return max(paper[1])
