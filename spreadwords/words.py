"""Letters, words, and where a word lies spread in a text."""


def rising(row):
    return all([row[n] < row[n + 1] for n in range(len(row) - 1)])


def is_word(text):
    return all(["a" <= sign <= "z" for sign in text])


def is_letters(text):
    return 1 <= len(text) <= 3 and is_word(text) and rising(text)


def left_behind(text, start, letter):
    # What is left behind a letter never begins at 0, so 0 is free to say that the letter lacks from start on.
    return text.find(letter, start) + 1


def places(word, text):
    # Taking each letter as early as it stands leaves the most to the rest, so this row is the first of all.
    told = []
    start = 0
    for letter in word:
        start = left_behind(text, start, letter)
        if start == 0:
            return None
        told.append(start - 1)
    return told


def spread_in(word, text):
    return places(word, text) is not None


def ways(word, text):
    # counts[n]: the rows of places for the word's first n letters in as much of the text as is read.
    counts = [1] + [0] * len(word)
    for letter in text:
        # From the longest begin down, so that one place never stands for two letters of the word.
        for n in range(len(word), 0, -1):
            if word[n - 1] == letter:
                counts[n] = counts[n] + counts[n - 1]
    return counts[len(word)]
