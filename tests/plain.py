"""What the document says, word for word and slowly: the tests hold the program against this."""

from itertools import combinations, product
from random import Random


def texts_of(letters, most):
    """All texts of the letters, of at most so many, in order."""
    for length in range(most + 1):
        for signs in product(letters, repeat=length):
            yield "".join(signs)


def rows_of_places(word, text):
    """All rising rows of places at which the word's letters stand."""
    return [list(row) for row in combinations(range(len(text)), len(word))
            if "".join(text[place] for place in row) == word]


def lies_in(word, text):
    rest = iter(text)
    return all(letter in rest for letter in word)


def words_in_text(text, k):
    """The set of the words of at most k letters that come of the text by leaving letters out."""
    return {"".join(signs) for length in range(k + 1) for signs in combinations(text, length)}


def in_order(words):
    return sorted(words, key=lambda word: (len(word), word))


def first_parting(one, other):
    """The first word, in order, that lies spread in just one of two unlike texts."""
    letters = sorted(set(one + other))
    for word in texts_of(letters, max(len(one), len(other))):
        if lies_in(word, one) != lies_in(word, other):
            return word
    return None


def alike_to(one, other, k):
    return words_in_text(one, k) == words_in_text(other, k)


def room_after(machine, room, text):
    letters, begin, ends, steps = machine
    for letter in text:
        room = steps[room][letters.index(letter)]
    return room


def taken(machine, text):
    return room_after(machine, machine[1], text) in machine[2]


def texts_taken(machine, most):
    return [text for text in texts_of(machine[0], most) if taken(machine, text)]


def least_by_search(machine):
    """The least machine: rooms known by which texts lead from them to ends, numbered as texts come upon them."""
    letters, begin, ends, steps = machine
    tails = list(texts_of(letters, len(steps)))
    known = {}

    def sort_of(text):
        room = room_after(machine, begin, text)
        if room not in known:
            known[room] = tuple(room_after(machine, room, tail) in ends for tail in tails)
        return known[room]

    firsts = {}
    for text in texts_of(letters, len(steps)):
        firsts.setdefault(sort_of(text), text)
    sorts = list(firsts)
    return (letters, 0,
            tuple(number for number, sort in enumerate(sorts) if sort[0]),
            tuple(tuple(sorts.index(sort_of(firsts[sort] + letter)) for letter in letters) for sort in sorts))


def chance_machines(letters, rooms, count, seed):
    """Machines made by a chance that is the same each time."""
    dice = Random(seed)
    for number in range(count):
        ends = tuple(room for room in range(rooms) if dice.randrange(2))
        steps = tuple(tuple(dice.randrange(rooms) for letter in letters) for room in range(rooms))
        yield (letters, dice.randrange(rooms), ends, steps)


def kinds_of(value):
    """The kinds of a value and of all that lies in it, as a text."""
    if type(value) in (tuple, list):
        return type(value).__name__ + "(" + " ".join(kinds_of(part) for part in value) + ")"
    return type(value).__name__


def kinds_of_machine(letters, ends, rooms):
    """The kinds that a machine of so many letters, ends and rooms is to have."""
    row = "tuple(" + " ".join(["int"] * letters) + ")"
    return ("tuple(str int tuple(" + " ".join(["int"] * ends) + ") tuple(" + " ".join([row] * rooms) + "))")


def held(wish, text):
    """Whether a wish holds of a text."""
    name = wish[0]
    if name == "has":
        return lies_in(wish[1], text)
    if name == "not":
        return not held(wish[1], text)
    if name == "and":
        return held(wish[1], text) and held(wish[2], text)
    if name == "or":
        return held(wish[1], text) or held(wish[2], text)
    return {"always": True, "never": False}[name]


def chance_wish(letters, deep, dice):
    """A wish made by chance, none of its parts deeper than told."""
    name = dice.choice(["always", "never", "has", "has", "not", "and", "or", "and", "or"][:9 if deep else 4])
    if name == "has":
        return ("has", "".join(dice.choice(letters) for letter in range(dice.randrange(4))))
    if name == "not":
        return ("not", chance_wish(letters, deep - 1, dice))
    if name in ("and", "or"):
        return (name, chance_wish(letters, deep - 1, dice), chance_wish(letters, deep - 1, dice))
    return (name,)


def chance_wishes(letters, deep, count, seed):
    """Wishes made by a chance that is the same each time."""
    dice = Random(seed)
    return [chance_wish(letters, deep, dice) for number in range(count)]


def rising_machines(letters, rooms, count, seed):
    """Machines made by chance whose steps never lead back to a room that was left."""
    dice = Random(seed)
    for number in range(count):
        ends = tuple(room for room in range(rooms) if dice.randrange(2))
        steps = tuple(tuple(dice.randrange(room, rooms) for letter in letters) for room in range(rooms))
        yield (letters, 0, ends, steps)


def all_machines(letters, rooms):
    """All machines of these letters and of so many rooms that begin at room 0."""
    rows = list(product(range(rooms), repeat=len(letters)))
    for steps in product(rows, repeat=rooms):
        for marks in product((False, True), repeat=rooms):
            yield (letters, 0, tuple(room for room in range(rooms) if marks[room]), steps)


def swollen(machine):
    """The same machine with each room twice, begun at the second one, and with a room that no text leads to."""
    letters, begin, ends, steps = machine
    rooms = len(steps)
    rows = [tuple(there + rooms * ((there + place) % 2) for place, there in enumerate(row)) for row in steps]
    again = [tuple(there + rooms * ((there + place + 1) % 2) for place, there in enumerate(row)) for row in steps]
    return (letters, begin + rooms, tuple(ends) + tuple(room + rooms for room in ends) + (2 * rooms,),
            tuple(rows + again + [(begin,) * len(letters)]))


def spread_set(text, k):
    """The set of the words of at most k letters in a text, letter by letter: for long texts."""
    words = {""}
    for letter in text:
        words |= {word + letter for word in words if len(word) < k}
    return words


def rooms_from(machine, room):
    """All rooms to which texts lead from a room."""
    found = [room]
    for here in found:
        found += sorted(set(machine[3][here]) - set(found))
    return found


def rises(machine):
    """Whether no text leads away from a room and back to it."""
    return not any(room in rooms_from(machine, there) for room, row in enumerate(machine[3])
                   for there in row if there != room)


def fork_meets(machine, room, x, y):
    """Whether a word of two letters leads to the same room from where they lead."""
    letters, begin, ends, steps = machine
    places = [letters.index(x), letters.index(y)]
    found = [tuple(steps[room][place] for place in places)]
    for one, other in found:
        if one == other:
            return True
        for place in places:
            pair = (steps[one][place], steps[other][place])
            if pair not in found:
                found.append(pair)
    return False


def first_sort(least_machine):
    """Whether a paper of the first sort holds of a machine that is a least one."""
    return rises(least_machine) and all(fork_meets(least_machine, room, x, y)
                                        for room in range(len(least_machine[3]))
                                        for x, y in combinations(least_machine[0], 2))


def paper_so(own, paper):
    """Whether a paper holds of a machine that is a least one, clause by clause."""
    letters, begin, ends, steps = own
    rooms = range(len(steps))

    def leads(room, text):
        return room_after(own, room, text)

    if paper[0] == "spread":
        ranks, meets = paper[1:]
        if len(ranks) != len(rooms):
            return False
        for room in rooms:
            for letter in letters:
                there = leads(room, letter)
                if there != room and ranks[there] <= ranks[room]:
                    return False
        for room, x, y, w in meets:
            if room not in rooms or x not in letters or y not in letters or x >= y or not set(w) <= {x, y}:
                return False
            if leads(leads(room, x), w) != leads(leads(room, y), w):
                return False
        wanted = {(room, x, y) for room in rooms for x, y in combinations(letters, 2)}
        return wanted <= {row[:3] for row in meets}
    if paper[0] == "ring":
        room, u, v = paper[1:]
        if room not in rooms or not set(u + v) <= set(letters):
            return False
        return leads(room, u) != room and leads(leads(room, u), v) == room
    room, x, y, w = paper[1:]
    if room not in rooms or x not in letters or y not in letters or x == y or not set(w) <= {x, y}:
        return False
    one, other = leads(leads(room, x), w), leads(leads(room, y), w)
    return one != other and all(leads(end, letter) == end for end in (one, other) for letter in (x, y))


def longest_by_search(least_machine):
    """The most letters that lead, each to a room where one wasn't yet, of all ways from the begin."""
    most = 0
    ways = [(least_machine[1],)]
    while ways:
        most = len(ways[0]) - 1
        ways = [way + (there,) for way in ways for there in sorted(set(least_machine[3][way[-1]]) - set(way))]
    return most


def rooms_by_words(machine, k):
    """By each set of words of at most k letters that lie spread in a text all rooms to which such texts lead."""
    letters, begin, ends, steps = machine
    found = [(frozenset({""}), begin)]
    seen = set(found)
    rooms = {}
    for words, room in found:
        rooms.setdefault(words, set()).add(room)
        for place, letter in enumerate(letters):
            longer = words | {word + letter for word in words if len(word) < k}
            if (longer, steps[room][place]) not in seen:
                seen.add((longer, steps[room][place]))
                found.append((longer, steps[room][place]))
    return rooms


def parts_alike(machine, k):
    """Whether a machine parts two texts that are alike to k."""
    return any(len({room in machine[2] for room in rooms}) == 2 for rooms in rooms_by_words(machine, k).values())


def depth_in(wish):
    """How deep the deepest part of a wish lies in it."""
    return max([1 + depth_in(part) for part in wish[1:] if type(part) is tuple], default=0)


def parts_in(wish):
    """All wishes in a wish, itself too."""
    return [wish] + [inner for part in wish[1:] if type(part) is tuple for inner in parts_in(part)]


def kinds_of_wish(wish):
    """Whether a wish is made of tuples and texts as a wish is to be, none of its words but texts of letters."""
    counts = {"always": (), "never": (), "has": (str,), "not": (tuple,), "and": (tuple, tuple), "or": (tuple, tuple)}
    return all(type(part) is tuple and tuple(type(thing) for thing in part[1:]) == counts[part[0]]
               for part in parts_in(wish))


def words_taken(machine, k):
    """The sets of words of at most k letters that lie spread in texts that a machine takes."""
    return {words for words, rooms in rooms_by_words(machine, k).items() if rooms & set(machine[2])}
