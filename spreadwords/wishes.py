"""Wishes: always, never, has, not, and, or; of which texts they hold, and the words in them."""

from spreadwords.words import spread_in

# By the first word of a wish how many wishes stand in it.
INNER = {"always": 0, "never": 0, "has": 0, "not": 1, "and": 2, "or": 2}


def inner_count(name):
    # None where no wish has this first word.
    return INNER.get(name)


def inner_wishes(wish):
    return wish[len(wish) - INNER[wish[0]]:]


# Wishes may be deeper than calls may go, so they are taken apart into their heads and put together from them:
# the head of a wish is the wish without the wishes in it, and the heads stand as the wish's text has them.


def heads_in(wish):
    told = []
    waiting = [wish]
    while waiting:
        part = waiting.pop()
        inner = inner_wishes(part)
        told.append(part[:len(part) - len(inner)])
        waiting.extend(list(reversed(inner)))
    return told


def wish_from(heads):
    waiting = []
    for head in reversed(heads):
        inner = []
        for number in range(INNER[head[0]]):
            inner.append(waiting.pop())
        waiting.append(head + tuple(inner))
    return waiting.pop()


def depth_of(wish):
    # How deep its deepest part is; the wish itself is 0 deep.
    depth = 0
    level = inner_wishes(wish)
    while level:
        deeper = []
        for part in level:
            deeper.extend(inner_wishes(part))
        level = deeper
        depth = depth + 1
    return depth


def truth(heads, lying):
    # lying: by each of the words whether it lies spread.
    waiting = []
    for head in reversed(heads):
        name = head[0]
        if name == "has":
            waiting.append(lying[head[1]])
        elif name == "always" or name == "never":
            waiting.append(name == "always")
        elif name == "not":
            waiting.append(not waiting.pop())
        else:
            one = waiting.pop()
            other = waiting.pop()
            waiting.append(one and other if name == "and" else one or other)
    return waiting.pop()


def words_in(wish):
    words = [head[1] for head in heads_in(wish) if head[0] == "has"]
    return sorted(sorted(set(words)), key=len)


def holds(wish, text):
    lying = {}
    for word in words_in(wish):
        lying[word] = spread_in(word, text)
    return truth(heads_in(wish), lying)
