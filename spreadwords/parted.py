"""To which length two texts are alike, and the first word that parts them."""

from spreadwords.words import left_behind


def lacks_in_one(row):
    return (row[1] == 0) != (row[2] == 0)


def longer_rows(letters, one, other, level):
    # A row is a word and where each of the texts is left behind it (0 where the word doesn't lie spread in it).
    told = []
    for word, here, there in level:
        for letter in letters:
            told.append((word + letter, left_behind(one, here, letter), left_behind(other, there, letter)))
    return told


def first_parting(one, other):
    # Of words that leave the same of both texts only the first can begin the first word that parts them:
    # so each pair of places is gone on from once, by the first word that leads there.
    letters = sorted(set(one + other))
    level = [("", 0, 0)]
    seen = {}
    while level:
        ahead = []
        for row in longer_rows(letters, one, other, level):
            if lacks_in_one(row):
                return row[0]
            pair = (row[1], row[2])
            if row[1] > 0 and pair not in seen:
                seen[pair] = True
                ahead.append(row)
        level = ahead
    return None


def parting(one, other):
    word = first_parting(one, other)
    if word is None:
        return None
    return (len(word) - 1, word)


def alike(one, other, k):
    told = parting(one, other)
    return told is None or told[0] >= k
