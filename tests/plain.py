"""What the document says, word for word and slowly: the tests hold the program against this."""

from itertools import combinations, product
from random import Random


def texts_of(letters, most):
    """All texts of the letters, of at most so many, in order."""
    for length in range(most + 1):
        for signs in product(letters, repeat=length):
            yield "".join(signs)


def rows_of_places(word, text):
    """All rising rows of places at which the word's letters stand."""
    return [list(row) for row in combinations(range(len(text)), len(word))
            if "".join(text[place] for place in row) == word]


def lies_in(word, text):
    rest = iter(text)
    return all(letter in rest for letter in word)


def words_in_text(text, k):
    """The set of the words of at most k letters that come of the text by leaving letters out."""
    return {"".join(signs) for length in range(k + 1) for signs in combinations(text, length)}


def in_order(words):
    return sorted(words, key=lambda word: (len(word), word))


def first_parting(one, other):
    """The first word, in order, that lies spread in just one of two unlike texts."""
    letters = sorted(set(one + other))
    for word in texts_of(letters, max(len(one), len(other))):
        if lies_in(word, one) != lies_in(word, other):
            return word
    return None


def alike_to(one, other, k):
    return words_in_text(one, k) == words_in_text(other, k)


def room_after(machine, room, text):
    letters, begin, ends, steps = machine
    for letter in text:
        room = steps[room][letters.index(letter)]
    return room


def taken(machine, text):
    return room_after(machine, machine[1], text) in machine[2]


def texts_taken(machine, most):
    return [text for text in texts_of(machine[0], most) if taken(machine, text)]


def least_by_search(machine):
    """The least machine: rooms known by which texts lead from them to ends, numbered as texts come upon them."""
    letters, begin, ends, steps = machine
    tails = list(texts_of(letters, len(steps)))
    known = {}

    def sort_of(text):
        room = room_after(machine, begin, text)
        if room not in known:
            known[room] = tuple(room_after(machine, room, tail) in ends for tail in tails)
        return known[room]

    firsts = {}
    for text in texts_of(letters, len(steps)):
        firsts.setdefault(sort_of(text), text)
    sorts = list(firsts)
    return (letters, 0,
            tuple(number for number, sort in enumerate(sorts) if sort[0]),
            tuple(tuple(sorts.index(sort_of(firsts[sort] + letter)) for letter in letters) for sort in sorts))


def chance_machines(letters, rooms, count, seed):
    """Machines made by a chance that is the same each time."""
    dice = Random(seed)
    for number in range(count):
        ends = tuple(room for room in range(rooms) if dice.randrange(2))
        steps = tuple(tuple(dice.randrange(rooms) for letter in letters) for room in range(rooms))
        yield (letters, dice.randrange(rooms), ends, steps)


def kinds_of(value):
    """The kinds of a value and of all that lies in it, as a text."""
    if type(value) in (tuple, list):
        return type(value).__name__ + "(" + " ".join(kinds_of(part) for part in value) + ")"
    return type(value).__name__


def kinds_of_machine(letters, ends, rooms):
    """The kinds that a machine of so many letters, ends and rooms is to have."""
    row = "tuple(" + " ".join(["int"] * letters) + ")"
    return ("tuple(str int tuple(" + " ".join(["int"] * ends) + ") tuple(" + " ".join([row] * rooms) + "))")


def held(wish, text):
    """Whether a wish holds of a text."""
    name = wish[0]
    if name == "has":
        return lies_in(wish[1], text)
    if name == "not":
        return not held(wish[1], text)
    if name == "and":
        return held(wish[1], text) and held(wish[2], text)
    if name == "or":
        return held(wish[1], text) or held(wish[2], text)
    return {"always": True, "never": False}[name]


def chance_wish(letters, deep, dice):
    """A wish made by chance, none of its parts deeper than told."""
    name = dice.choice(["always", "never", "has", "has", "not", "and", "or", "and", "or"][:9 if deep else 4])
    if name == "has":
        return ("has", "".join(dice.choice(letters) for letter in range(dice.randrange(4))))
    if name == "not":
        return ("not", chance_wish(letters, deep - 1, dice))
    if name in ("and", "or"):
        return (name, chance_wish(letters, deep - 1, dice), chance_wish(letters, deep - 1, dice))
    return (name,)


def chance_wishes(letters, deep, count, seed):
    """Wishes made by a chance that is the same each time."""
    dice = Random(seed)
    return [chance_wish(letters, deep, dice) for number in range(count)]
