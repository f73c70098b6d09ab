"""Letters that may be left out of a text, or put into it, so that it stays alike to a length."""

from spreadwords.parted import alike


def without(text, place):
    return text[:place] + text[place + 1:]


def filled(text, place, letter):
    return text[:place] + letter + text[place:]


def loose(text, k):
    return [place for place in range(len(text)) if alike(text, without(text, place), k)]


def fillings(letters, text, k):
    told = []
    for place in range(len(text) + 1):
        for letter in letters:
            if alike(text, filled(text, place, letter), k):
                told.append((place, letter))
    return told
