"""What tells two machines apart: a wish, or else two texts that are alike, one of each."""

from spreadwords.lengths import alike_texts, taken_words
from spreadwords.machines import look_fit
from spreadwords.wishmaker import parting_wish


def told_apart(one, other, k):
    look_fit(one, other)
    here = taken_words(one, k)
    there = taken_words(other, k)
    texts = alike_texts(here, there)
    if texts is None:
        return ("wish", parting_wish(one[0], k, here, there))
    return ("alike",) + texts
