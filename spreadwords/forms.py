"""The first text, in order, of all that are alike to a length."""

from spreadwords.spreads import spread_words


def first_texts(letters, k, last):
    # Of all texts that are alike to k the first one, in order, up to the one whose spread words are last.
    # A begin of a form is a form too: else an earlier text, alike to the begin, could stand in its place.
    # So only forms are made longer, and none is left out.
    told = []
    seen = {}
    level = [""]
    while level:
        longer = []
        for text in level:
            words = tuple(spread_words(text, k))
            if words not in seen:
                seen[words] = True
                told.append(text)
                if words == last:
                    return told
                longer.extend([text + letter for letter in letters])
        level = longer
    return told


def form(text, k):
    told = first_texts(sorted(set(text)), k, tuple(spread_words(text, k)))
    return told[len(told) - 1]


def forms(letters, k):
    return first_texts(letters, k, None)
