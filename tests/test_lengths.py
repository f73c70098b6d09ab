import unittest

from spreadwords.joined import both, contrary, either
from spreadwords.lengths import least_length, parted_at
from spreadwords.papers import longest_way
from spreadwords.wished import machine_of
from spreadwords.wishes import words_in
from tests.plain import (all_machines, alike_to, chance_machines, chance_wishes, kinds_of, parts_alike,
                         rising_machines, swollen, taken, texts_of, words_in_text)

ODD = ("ab", 0, (1,), ((1, 0), (0, 1)))
BEGINS_WITH_A = ("ab", 0, (1,), ((1, 2), (1, 1), (2, 2)))


def most_for(machine):
    return 2 if len(machine[0]) == 3 else 3


def has(letters, word):
    return machine_of(letters, ("has", word))


def drawn(count):
    for letters in ("a", "ab", "cx", "abc"):
        for rooms in range(1, 7):
            yield from chance_machines(letters, rooms, count // 2, 50 + rooms)
            yield from rising_machines(letters, rooms, count, 60 + rooms)


class PartedAt(unittest.TestCase):
    def look_at(self, machine, k):
        told = parted_at(machine, k)
        wanted = parts_alike(machine, k)
        self.assertEqual(told is not None, wanted, (machine, k))
        if wanted:
            self.assertEqual(kinds_of(told), "tuple(str str)")
            one, other = told
            self.assertLessEqual(set(one + other), set(machine[0]))
            self.assertTrue(alike_to(one, other, k), (machine, k, told))
            self.assertNotEqual(taken(machine, one), taken(machine, other), (machine, k, told))
        return wanted

    def test_by_hand(self):
        for k in range(4):
            self.assertTrue(self.look_at(ODD, k))
            self.assertTrue(self.look_at(BEGINS_WITH_A, k))
            self.assertEqual(self.look_at(has("ab", "ab"), k), k < 2)
            self.assertEqual(self.look_at(has("ab", "aba"), k), k < 3)
            self.assertEqual(self.look_at(has("ab", "abab"), k), True)

    def test_machines_that_take_none_and_all(self):
        for letters in ("a", "ab", "abc"):
            for ends in ((), (0,)):
                machine = (letters, 0, ends, ((0,) * len(letters),))
                for k in range(most_for(machine) + 1):
                    self.assertFalse(self.look_at(machine, k))

    def test_to_none_all_are_alike(self):
        one = ("ab", 0, (0,), ((1, 1), (1, 1)))
        self.assertTrue(self.look_at(one, 0))
        self.assertFalse(self.look_at(one, 1))

    def test_drawn_machines(self):
        found = {}
        for machine in drawn(8):
            for k in range(most_for(machine) + 1):
                found[(len(machine[0]), k, self.look_at(machine, k))] = True
        self.assertEqual(len(found), 2 * (4 + 4 + 3))

    def test_all_machines_of_two_rooms(self):
        for letters in ("a", "ab"):
            for machine in all_machines(letters, 2):
                for k in range(4):
                    self.look_at(machine, k)

    def test_against_all_texts_of_a_few_letters(self):
        for letters, most, count in (("a", 9, 20), ("ab", 8, 25), ("abc", 5, 12)):
            texts = list(texts_of(letters, most))
            for k in range(3):
                by_words = {}
                for text in texts:
                    by_words.setdefault(frozenset(words_in_text(text, k)), []).append(text)
                for machine in list(rising_machines(letters, 5, count, 70)) + list(chance_machines(letters, 3, 5, 71)):
                    seen = any(len({taken(machine, text) for text in group}) == 2 for group in by_words.values())
                    if seen:
                        self.assertIsNotNone(parted_at(machine, k), (machine, k))

    def test_rooms_more(self):
        for machine in list(rising_machines("ab", 3, 15, 72)) + [ODD, BEGINS_WITH_A, has("ab", "ab")]:
            for k in range(4):
                self.assertEqual(self.look_at(swollen(machine), k), self.look_at(machine, k))

    def test_told_machines(self):
        machines = [both(has("ab", "ab"), ODD), either(has("ab", "aab"), contrary(has("ab", "bba"))),
                    both(has("abc", "ab"), contrary(has("abc", "ca"))), contrary(BEGINS_WITH_A),
                    has("ab", "ab" * 15)]
        for letters in ("a", "ab", "abc"):
            machines += [machine_of(letters, wish) for wish in chance_wishes(letters, 3, 10, 73)]
        for machine in machines:
            for k in range(most_for(machine) + 1):
                self.look_at(machine, k)

    def test_a_wishs_machine_parts_none_that_are_alike_to_its_words(self):
        for letters, most in (("a", 3), ("ab", 3), ("abc", 2)):
            for wish in chance_wishes(letters, 3, 40, 74):
                longest = max([len(word) for word in words_in(wish)] + [0])
                if longest <= most:
                    self.assertIsNone(parted_at(machine_of(letters, wish), longest))

    def test_asked_again(self):
        kept = parted_at(BEGINS_WITH_A, 2)
        parted_at(ODD, 2)
        parted_at(BEGINS_WITH_A, 1)
        self.assertEqual(parted_at(BEGINS_WITH_A, 2), kept)


class LeastLength(unittest.TestCase):
    def look_at(self, machine):
        told = least_length(machine)
        wanted = [k for k in range(most_for(machine) + 1) if not parts_alike(machine, k)]
        self.assertEqual(told, wanted[0] if wanted else None, machine)
        self.assertIn(type(told), (int, type(None)))
        return told

    def test_words(self):
        for letters, word, length in (("a", "", 0), ("a", "a", 1), ("a", "aa", 2), ("a", "aaa", 3), ("a", "aaaa", None),
                                      ("ab", "", 0), ("ab", "b", 1), ("ab", "ab", 2), ("ab", "bab", 3),
                                      ("ab", "abba", None), ("abc", "", 0), ("abc", "c", 1), ("abc", "ac", 2),
                                      ("abc", "abc", None), ("abc", "aaa", None)):
            self.assertEqual(self.look_at(has(letters, word)), length)
            self.assertEqual(self.look_at(contrary(has(letters, word))), length)

    def test_none_of_machines_of_the_other_sorts(self):
        for machine in (ODD, BEGINS_WITH_A, ("a", 0, (0,), ((1,), (0,))), ("abc", 0, (0,), ((1, 0, 0), (1, 0, 1)))):
            self.assertIsNone(self.look_at(machine))

    def test_less_than_the_longest_way(self):
        # A text of these three letters in which each stands: words of one letter say so, the longest way has three.
        all_three = machine_of("abc", ("and", ("has", "a"), ("and", ("has", "b"), ("has", "c"))))
        self.assertEqual(longest_way(all_three), 3)
        self.assertEqual(self.look_at(all_three), 1)

    def test_drawn_machines(self):
        found = {}
        for machine in drawn(10):
            length = self.look_at(machine)
            found[(len(machine[0]), length)] = True
            way = longest_way(machine)
            if way is None:
                self.assertIsNone(length)
            elif length is not None:
                self.assertLessEqual(length, way)
        for count, most in ((1, 3), (2, 3), (3, 2)):
            for length in [None] + list(range(most + 1)):
                self.assertIn((count, length), found)

    def test_rooms_more(self):
        for machine in list(rising_machines("ab", 3, 15, 75)) + [ODD]:
            self.assertEqual(self.look_at(swollen(machine)), self.look_at(machine))

    def test_asked_again(self):
        kept = has("ab", "ab")
        self.assertEqual([least_length(kept), least_length(ODD), least_length(kept)], [2, None, 2])
