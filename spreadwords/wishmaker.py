"""Wishes over words of at most a length, made from what machines take."""

from spreadwords.joined import contrary
from spreadwords.lengths import alike_texts, taken_words
from spreadwords.spreads import spread_words

ALWAYS = ("always",)
NEVER = ("never",)


def having(rows, word):
    return [row for row in rows if word in row]


def lacking(rows, word):
    return [row for row in rows if word not in row]


def left_mixed(held, others):
    # How many rows are still to be told apart: none where all are of one sort.
    if held == [] or others == []:
        return 0
    return len(held) + len(others)


def asking_word(words, held, others):
    # The word that leaves least to be asked, whether it lies spread or not. One that is asked in vain leaves all,
    # and two unlike rows have a word that doesn't: so each word that is chosen leaves less.
    def most_left(word):
        there = left_mixed(having(held, word), having(others, word))
        return max(there, left_mixed(lacking(held, word), lacking(others, word)))

    return min(words, key=most_left)


def asked(word, there, elsewhere):
    # The wish there where the word lies spread, the other one elsewhere.
    has = ("has", word)
    lacks = ("not", has)
    if there == ALWAYS:
        return has if elsewhere == NEVER else ("or", has, elsewhere)
    if there == NEVER:
        return lacks if elsewhere == ALWAYS else ("and", lacks, elsewhere)
    if elsewhere == ALWAYS:
        return ("or", lacks, there)
    if elsewhere == NEVER:
        return ("and", has, there)
    return ("or", ("and", has, there), ("and", lacks, elsewhere))


def wish_between(words, held, others):
    # Held and others are rows of the words that lie spread in texts. No word is asked twice on one way, so calls go
    # no deeper than there are words, and wishes no more than twice so deep.
    if others == []:
        return ALWAYS
    if held == []:
        return NEVER
    word = asking_word(words, held, others)
    there = wish_between(words, having(held, word), having(others, word))
    return asked(word, there, wish_between(words, lacking(held, word), lacking(others, word)))


def parting_wish(letters, k, here, there):
    # Of what taken_words tells of two machines, where no two texts of theirs are alike.
    return wish_between(spread_words(letters * k, k), list(here), list(there))


def wish_of(machine, k):
    here = taken_words(machine, k)
    there = taken_words(contrary(machine), k)
    if alike_texts(here, there) is not None:
        return None
    return parting_wish(machine[0], k, here, there)
