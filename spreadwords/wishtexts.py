"""A wish's text, written and read."""

from spreadwords.errors import NoText
from spreadwords.wishes import heads_in, inner_count, wish_from
from spreadwords.words import is_word

NO_LETTERS = "."


def show_wish(wish):
    words = []
    for head in heads_in(wish):
        # An empty word in the head is one without letters: first words never are empty.
        words.extend([word or NO_LETTERS for word in head])
    return " ".join(words)


def read_word(words, at):
    # at is never more than how many words there are, so it also says that one lacks.
    if at == len(words):
        raise NoText(at)
    return words[at]


def read_head(words, at):
    name = read_word(words, at)
    if inner_count(name) is None:
        raise NoText(at)
    if name != "has":
        return (name,)
    word = read_word(words, at + 1)
    if word == NO_LETTERS:
        return ("has", "")
    if word == "" or not is_word(word):
        raise NoText(at + 1)
    return ("has", word)


def read_wish(text):
    words = text.split(" ")
    heads = []
    at = 0
    lacking = 1
    while lacking > 0:
        head = read_head(words, at)
        heads.append(head)
        at = at + len(head)
        lacking = lacking + inner_count(head[0]) - 1
    if at < len(words):
        raise NoText(at)
    return wish_from(heads)
