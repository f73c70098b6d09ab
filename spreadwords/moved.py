"""What is left of a wish behind a letter and ahead of one, and a wish turned about."""

from spreadwords.wishes import heads_in, wish_from


def without_first(word, letter):
    if word.startswith(letter):
        return word[1:]
    return word


def without_last(word, letter):
    if word.endswith(letter):
        return word[:-1]
    return word


def with_words(wish, change):
    heads = []
    for head in heads_in(wish):
        if head[0] == "has":
            heads.append(("has", change(head[1])))
        else:
            heads.append(head)
    return wish_from(heads)


def wish_behind(wish, letter):
    return with_words(wish, lambda word: without_first(word, letter))


def wish_ahead(wish, letter):
    return with_words(wish, lambda word: without_last(word, letter))


def wish_turned(wish):
    return with_words(wish, lambda word: "".join(reversed(word)))
