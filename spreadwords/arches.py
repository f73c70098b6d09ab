"""A text cut into arches, each with all letters, and the first word that does not lie spread in it."""

from spreadwords.words import left_behind


def arch_end(letters, text, start):
    # 0 where some letter lacks from start on.
    ends = [left_behind(text, start, letter) for letter in letters]
    if 0 in ends:
        return 0
    return max(ends)


def arches(letters, text):
    told = []
    start = 0
    end = arch_end(letters, text, start)
    while end > 0:
        told.append(text[start:end])
        start = end
        end = arch_end(letters, text, start)
    told.append(text[start:])
    return tuple(told)


def absent(letters, text):
    # level: by each place where the text may be left, the first word of one length that leaves it there.
    level = {0: ""}
    while True:
        longer = {}
        for start in level:
            for letter in letters:
                word = level[start] + letter
                behind = left_behind(text, start, letter)
                if behind == 0:
                    return word
                longer.setdefault(behind, word)
        level = longer
