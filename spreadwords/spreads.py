"""All words up to a length that lie spread in a text."""

from spreadwords.words import left_behind


def longer_words(text, letters, level):
    # level: pairs of a word and where the text is left behind it; words in order give longer words in order.
    told = []
    for word, start in level:
        for letter in letters:
            behind = left_behind(text, start, letter)
            if behind > 0:
                told.append((word + letter, behind))
    return told


def spread_words(text, k):
    letters = sorted(set(text))
    told = [""]
    level = [("", 0)]
    for length in range(min(k, len(text))):
        level = longer_words(text, letters, level)
        told.extend([word for word, start in level])
    return told
