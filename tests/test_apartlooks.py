import unittest

from spreadwords.apart import told_apart
from spreadwords.apartlooks import apart_holds
from spreadwords.joined import both, contrary
from spreadwords.machines import takes
from spreadwords.wished import machine_of
from tests.plain import (alike_to, chance_machines, chance_wishes, depth_in, parts_in, rising_machines, spread_set,
                         taken, texts_of, words_taken)

ODD = ("ab", 0, (1,), ((1, 0), (0, 1)))
HAS_A = machine_of("ab", ("has", "a"))
HAS_AB = machine_of("ab", ("has", "ab"))
NO_A = contrary(HAS_A)


def most_for(machine):
    return 2 if len(machine[0]) == 3 else 3


def wish_so(one, other, k, wish):
    """Whether a wish over words of at most k letters holds of all texts of one machine and of none of another's."""
    words = [part[1] for part in parts_in(wish) if part[0] == "has"]
    if any(len(word) > k for word in words):
        return False

    def held_by(kinds, part):
        if part[0] == "has":
            return part[1] in kinds
        if part[0] == "not":
            return not held_by(kinds, part[1])
        if part[0] in ("and", "or"):
            both_ways = [held_by(kinds, inner) for inner in part[1:]]
            return all(both_ways) if part[0] == "and" else any(both_ways)
        return part[0] == "always"

    return (all(held_by(kinds, wish) for kinds in words_taken(one, k))
            and not any(held_by(kinds, wish) for kinds in words_taken(other, k)))


class ApartHolds(unittest.TestCase):
    def look_at(self, one, other, k, told, wanted):
        self.assertIs(apart_holds(one, other, k, told), wanted, (one, other, k, told))

    def test_a_wish(self):
        self.look_at(HAS_A, NO_A, 1, ("wish", ("has", "a")), True)
        self.look_at(NO_A, HAS_A, 1, ("wish", ("not", ("has", "a"))), True)
        self.look_at(HAS_AB, NO_A, 1, ("wish", ("has", "a")), True)
        self.look_at(HAS_AB, NO_A, 1, ("wish", ("and", ("has", "a"), ("has", "b"))), True)
        self.look_at(HAS_AB, NO_A, 2, ("wish", ("has", "ab")), True)

    def test_a_word_of_more_than_k_letters(self):
        for k in range(4):
            self.look_at(HAS_AB, NO_A, k, ("wish", ("has", "ab")), k >= 2)
            self.look_at(HAS_A, NO_A, k, ("wish", ("has", "a")), k >= 1)
            # It is no matter that such a word says nothing.
            said = ("or", ("has", "a"), ("and", ("has", "bab"), ("never",)))
            self.look_at(HAS_A, NO_A, k, ("wish", said), k >= 3)
        none = ("ab", 0, (), ((0, 0),))
        self.look_at(none, none, 0, ("wish", ("has", "")), True)
        self.look_at(none, none, 0, ("wish", ("has", "a")), False)

    def test_a_wish_that_lacks_some_texts_of_the_first(self):
        self.look_at(HAS_A, NO_A, 2, ("wish", ("has", "ab")), False)
        self.look_at(HAS_A, NO_A, 2, ("wish", ("has", "aa")), False)
        self.look_at(HAS_A, NO_A, 2, ("wish", ("never",)), False)
        self.look_at(HAS_A, ("ab", 0, (), ((0, 0),)), 2, ("wish", ("never",)), False)

    def test_a_wish_that_holds_of_some_texts_of_the_second(self):
        self.look_at(HAS_AB, NO_A, 1, ("wish", ("has", "b")), False)
        self.look_at(HAS_A, NO_A, 1, ("wish", ("always",)), False)
        self.look_at(("ab", 0, (), ((0, 0),)), HAS_A, 1, ("wish", ("always",)), False)
        self.look_at(HAS_A, NO_A, 1, ("wish", ("or", ("has", "a"), ("has", "b"))), False)

    def test_machines_exchanged_and_not_of_a_told_wish(self):
        for letters in ("a", "ab", "abc"):
            machines = list(rising_machines(letters, 4, 14, 100))
            for one, other in zip(machines, machines[1:]):
                other = both(other, contrary(one))
                for k in range(most_for(one) + 1):
                    told = told_apart(one, other, k)
                    self.look_at(one, other, k, told, True)
                    if told[0] == "wish":
                        some = bool(words_taken(one, k) | words_taken(other, k))
                        turned = ("wish", ("not", told[1]))
                        self.look_at(other, one, k, told, not some)
                        self.look_at(one, other, k, turned, not some)
                        self.look_at(other, one, k, turned, True)
                    else:
                        swapped = ("alike", told[2], told[1])
                        wanted = takes(one, told[2]) and takes(other, told[1])
                        self.look_at(one, other, k, swapped, wanted)
                        self.look_at(other, one, k, swapped, True)

    def test_texts(self):
        self.look_at(ODD, contrary(ODD), 1, ("alike", "a", "aa"), True)
        self.look_at(ODD, contrary(ODD), 2, ("alike", "aaa", "aa"), True)
        self.look_at(ODD, ODD, 3, ("alike", "a", "a"), True)
        self.look_at(ODD, HAS_A, 0, ("alike", "a", "ab"), True)
        self.look_at(contrary(ODD), NO_A, 3, ("alike", "", ""), True)

    def test_texts_that_are_not_alike(self):
        self.look_at(ODD, contrary(ODD), 2, ("alike", "a", "aa"), False)
        self.look_at(ODD, contrary(ODD), 3, ("alike", "aaa", "aa"), False)
        self.look_at(ODD, HAS_A, 1, ("alike", "a", "ab"), False)
        self.look_at(ODD, contrary(ODD), 1, ("alike", "a", ""), False)
        self.look_at(ODD, contrary(ODD), 0, ("alike", "a", ""), True)

    def test_a_text_that_is_not_taken(self):
        self.look_at(ODD, contrary(ODD), 1, ("alike", "aa", "a"), False)
        self.look_at(ODD, contrary(ODD), 1, ("alike", "aa", "aa"), False)
        self.look_at(ODD, contrary(ODD), 1, ("alike", "a", "a"), False)
        self.look_at(ODD, contrary(ODD), 1, ("alike", "aaa", "aaa"), False)
        self.look_at(HAS_A, HAS_AB, 0, ("alike", "b", "ab"), False)
        self.look_at(HAS_A, HAS_AB, 0, ("alike", "a", "ba"), False)

    def test_texts_of_thirty_letters(self):
        self.look_at(ODD, contrary(ODD), 3, ("alike", "a" * 29, "a" * 30), True)
        self.look_at(ODD, contrary(ODD), 3, ("alike", "ab" * 15, "ab" * 14), True)
        self.look_at(ODD, contrary(ODD), 3, ("alike", "ab" * 14, "ab" * 15), False)

    def test_texts_against_a_search(self):
        for letters, most in (("a", 4), ("ab", 3), ("abc", 2)):
            machines = list(chance_machines(letters, 3, 4, 101))
            for one, other in zip(machines, machines[1:]):
                for k in range(most_for(one) + 1):
                    for t in texts_of(letters, most):
                        for u in texts_of(letters, most):
                            wanted = alike_to(t, u, k) and taken(one, t) and taken(other, u)
                            self.look_at(one, other, k, ("alike", t, u), wanted)

    def test_wishes_against_a_search(self):
        found = {}
        for letters in ("a", "ab", "abc"):
            wishes = [wish for wish in chance_wishes(letters, 3, 30, 102)
                      if len(parts_in(wish)) <= 10 and depth_in(wish) <= 5]
            for wish in wishes:
                machine = machine_of(letters, wish)
                for one, other in ((machine, contrary(machine)), (contrary(machine), machine),
                                   (both(machine, machine_of(letters, ("has", "a"))), contrary(machine)),
                                   (machine, both(contrary(machine), machine_of(letters, ("has", "a"))))):
                    for k in range(most_for(one) + 1):
                        wanted = wish_so(one, other, k, wish)
                        self.look_at(one, other, k, ("wish", wish), wanted)
                        found[(len(letters), wanted)] = True
        self.assertEqual(len(found), 6)

    def test_told_things_of_told_machines(self):
        one = both(ODD, machine_of("ab", ("has", "bab")))
        for k in range(4):
            told = told_apart(one, contrary(one), k)
            self.assertEqual(told[0], "alike")
            self.assertEqual(spread_set(told[1], k), spread_set(told[2], k))
            self.look_at(one, contrary(one), k, told, True)
            self.look_at(contrary(one), one, k, told, False)

    def test_asked_again(self):
        told = ("wish", ("has", "a"))
        self.look_at(HAS_A, NO_A, 1, told, True)
        self.look_at(NO_A, HAS_A, 1, told, False)
        self.look_at(HAS_A, NO_A, 1, told, True)
        self.assertEqual(told, ("wish", ("has", "a")))
