"""Wishes' machines, and the first text that parts two wishes."""

from spreadwords.least import least, parting_text
from spreadwords.moved import without_first
from spreadwords.walks import machine_from
from spreadwords.wishes import heads_in, truth, words_in


def machine_of(letters, wish):
    # Behind a text the wish is known by what is left of each of its words there: nothing of those that lie in it.
    words = words_in(wish)
    heads = heads_in(wish)

    def step(lefts, letter):
        return tuple([without_first(left, letter) for left in lefts])

    def is_end(lefts):
        return truth(heads, dict(zip(words, [left == "" for left in lefts])))

    return least(machine_from(letters, tuple(words), step, is_end))


def parting_wishes(letters, one, other):
    return parting_text(machine_of(letters, one), machine_of(letters, other))
