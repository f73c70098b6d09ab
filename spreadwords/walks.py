"""What texts lead to from a begin, letter by letter: rooms, or anything else that can stand as a dict's key."""


def walked(letters, begin, step):
    # By each place that a text leads to the first such text; the places stand in the order of these texts,
    # as places are gone on from in this order, and by the letters in order.
    texts = {begin: ""}
    level = [begin]
    while level:
        longer = []
        for place in level:
            for letter in letters:
                ahead = step(place, letter)
                if ahead not in texts:
                    texts[ahead] = texts[place] + letter
                    longer.append(ahead)
        level = longer
    return texts


def machine_from(letters, begin, step, is_end):
    numbers = {}
    for number, place in enumerate(walked(letters, begin, step)):
        numbers[place] = number
    ends = tuple([numbers[place] for place in numbers if is_end(place)])
    steps = []
    for place in numbers:
        steps.append(tuple([numbers[step(place, letter)] for letter in letters]))
    return (letters, 0, ends, tuple(steps))
