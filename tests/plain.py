"""What the document says, word for word and slowly: the tests hold the program against this."""

from itertools import combinations, product


def texts_of(letters, most):
    """All texts of the letters, of at most so many, in order."""
    for length in range(most + 1):
        for signs in product(letters, repeat=length):
            yield "".join(signs)


def rows_of_places(word, text):
    """All rising rows of places at which the word's letters stand."""
    return [list(row) for row in combinations(range(len(text)), len(word))
            if "".join(text[place] for place in row) == word]


def lies_in(word, text):
    rest = iter(text)
    return all(letter in rest for letter in word)


def words_in_text(text, k):
    """The set of the words of at most k letters that come of the text by leaving letters out."""
    return {"".join(signs) for length in range(k + 1) for signs in combinations(text, length)}


def in_order(words):
    return sorted(words, key=lambda word: (len(word), word))


def first_parting(one, other):
    """The first word, in order, that lies spread in just one of two unlike texts."""
    letters = sorted(set(one + other))
    for word in texts_of(letters, max(len(one), len(other))):
        if lies_in(word, one) != lies_in(word, other):
            return word
    return None


def alike_to(one, other, k):
    return words_in_text(one, k) == words_in_text(other, k)
