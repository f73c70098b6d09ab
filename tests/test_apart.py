import unittest

from spreadwords.apart import told_apart
from spreadwords.apartlooks import apart_holds
from spreadwords.errors import NoFit, SpreadError
from spreadwords.joined import both, contrary, either
from spreadwords.lengths import least_length
from spreadwords.machines import takes
from spreadwords.wished import machine_of
from tests.plain import (alike_to, chance_machines, chance_wishes, depth_in, held, kinds_of, kinds_of_wish, parts_in,
                         rising_machines, taken, texts_of, words_taken)

ODD = ("ab", 0, (1,), ((1, 0), (0, 1)))
BEGINS_WITH_A = ("ab", 0, (1,), ((1, 2), (1, 1), (2, 2)))


def most_for(machine):
    return 2 if len(machine[0]) == 3 else 3


def nothing(letters):
    return (letters, 0, (), ((0,) * len(letters),))


def has(letters, word):
    return machine_of(letters, ("has", word))


class ToldApart(unittest.TestCase):
    def look_at(self, one, other, k):
        """What is told is as it must be; the first word of it is given back."""
        told = told_apart(one, other, k)
        self.assertIs(type(told), tuple)
        common = words_taken(one, k) & words_taken(other, k)
        if common:
            self.assertEqual(kinds_of(told), "tuple(str str str)", (one, other, k))
            self.assertEqual(told[0], "alike")
            self.assertLessEqual(set(told[1] + told[2]), set(one[0]))
            self.assertTrue(taken(one, told[1]))
            self.assertTrue(taken(other, told[2]))
            self.assertTrue(alike_to(told[1], told[2], k))
        else:
            self.assertEqual((told[0], len(told)), ("wish", 2), (one, other, k))
            self.look_at_wish(one, other, k, told[1])
        self.assertIs(apart_holds(one, other, k, told), True)
        return told[0]

    def look_at_wish(self, one, other, k, wish):
        self.assertTrue(kinds_of_wish(wish), wish)
        self.assertLess(depth_in(wish), 100)
        for part in parts_in(wish):
            if part[0] == "has":
                self.assertLessEqual(len(part[1]), k)
                self.assertLessEqual(set(part[1]), set(one[0]))
        machine = machine_of(one[0], wish)
        self.assertEqual(both(one, contrary(machine)), nothing(one[0]))
        self.assertEqual(both(other, machine), nothing(one[0]))
        for text in texts_of(one[0], 4):
            if taken(one, text):
                self.assertTrue(held(wish, text))
            if taken(other, text):
                self.assertFalse(held(wish, text))

    def test_a_text_in_common(self):
        for one, other in ((ODD, BEGINS_WITH_A), (ODD, ODD), (has("ab", "ab"), has("ab", "ba")),
                           (has("abc", "ab"), has("abc", "cb")), (has("a", "aa"), has("a", "a")),
                           (nothing("a")[:2] + ((0,),) + nothing("a")[3:], has("a", "aaaa"))):
            self.assertNotEqual(both(one, other), nothing(one[0]))
            for k in range(most_for(one) + 1):
                self.assertEqual(self.look_at(one, other, k), "alike")
                self.assertEqual(self.look_at(other, one, k), "alike")

    def test_machines_that_take_none(self):
        for letters in ("a", "ab", "abc"):
            none = nothing(letters)
            machines = [none, contrary(none), has(letters, "a"), has(letters, "aa")]
            for machine in machines + list(chance_machines(letters, 4, 5, 90)):
                for k in range(most_for(none) + 1):
                    self.assertEqual(self.look_at(none, machine, k), "wish")
                    self.assertEqual(self.look_at(machine, none, k), "wish")

    def test_a_machine_and_its_contrary(self):
        found = {}
        machines = [has("ab", word) for word in ("", "a", "ab", "aba", "abab")] + [has("abc", "ac"), ODD, BEGINS_WITH_A]
        for letters in ("a", "ab", "abc"):
            machines += list(rising_machines(letters, 4, 12, 91))
        for machine in machines:
            length = least_length(machine)
            for k in range(most_for(machine) + 1):
                wanted = "alike" if length is None or k < length else "wish"
                self.assertEqual(self.look_at(machine, contrary(machine), k), wanted)
                self.assertEqual(self.look_at(contrary(machine), machine, k), wanted)
                found[(wanted, k)] = True
        self.assertEqual(len(found), 8)

    def test_less_than_a_machine_and_its_contrary(self):
        # No wish is just what ODD takes, but some part of it from other texts.
        few = both(ODD, contrary(has("ab", "b")))
        self.assertEqual(self.look_at(few, both(has("ab", "bb"), contrary(ODD)), 1), "wish")
        self.assertEqual(self.look_at(few, both(has("ab", "bb"), contrary(ODD)), 0), "alike")
        # Texts of one a and of two: words of two letters part them, words of one don't.
        once = machine_of("ab", ("and", ("has", "a"), ("not", ("has", "aa"))))
        self.assertEqual(self.look_at(once, has("ab", "aa"), 1), "alike")
        self.assertEqual(self.look_at(once, has("ab", "aa"), 2), "wish")

    def test_drawn_machines(self):
        found = {}
        for letters in ("a", "ab", "cx", "abc"):
            machines = list(rising_machines(letters, 5, 8, 92)) + list(chance_machines(letters, 4, 4, 93))
            machines += [machine_of(letters, wish) for wish in chance_wishes(letters, 2, 8, 94)]
            for one, other in list(zip(machines, machines[1:])) + list(zip(machines, machines[5:])):
                for other in (other, both(other, contrary(one))):
                    for k in range(most_for(one) + 1):
                        found[(len(letters), k, self.look_at(one, other, k))] = True
        self.assertEqual(len(found), 2 * (4 + 4 + 3))

    def test_told_machines(self):
        one = either(has("ab", "aab"), both(ODD, has("ab", "bb")))
        other = both(contrary(one), has("ab", "aa"))
        for k in range(4):
            self.look_at(one, other, k)

    def test_other_letters(self):
        machines = [nothing(letters) for letters in ("a", "b", "ab", "ac", "bc", "abc", "abd", "xyz")]
        for one in machines:
            for other in machines:
                for k in (0, 1, 2):
                    if one[0] != other[0]:
                        with self.assertRaises(NoFit) as caught:
                            told_apart(one, other, k)
                        self.assertIs(type(caught.exception), NoFit)
                        self.assertIsInstance(caught.exception, SpreadError)
                    else:
                        self.assertEqual(told_apart(one, other, k)[0], "wish")

    def test_what_is_told_is_handed_on(self):
        told = told_apart(ODD, contrary(ODD), 3)
        self.assertTrue(takes(ODD, told[1]))
        self.assertFalse(takes(ODD, told[2]))

    def test_asked_again(self):
        kept = told_apart(ODD, BEGINS_WITH_A, 2)
        told_apart(BEGINS_WITH_A, ODD, 2)
        told_apart(ODD, nothing("ab"), 1)
        self.assertEqual(told_apart(ODD, BEGINS_WITH_A, 2), kept)
