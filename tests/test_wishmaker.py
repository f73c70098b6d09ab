import unittest

from spreadwords.joined import both, contrary, either
from spreadwords.least import least
from spreadwords.lengths import least_length
from spreadwords.parted import parting
from spreadwords.walks import machine_from
from spreadwords.wished import machine_of
from spreadwords.wishes import depth_of, holds, words_in
from spreadwords.wishmaker import wish_of
from spreadwords.wishtexts import read_wish, show_wish
from tests.plain import (all_machines, chance_machines, chance_wishes, depth_in, held, kinds_of_wish, parts_alike,
                         parts_in, rising_machines, swollen, taken, texts_of)

ODD = ("ab", 0, (1,), ((1, 0), (0, 1)))
BEGINS_WITH_A = ("ab", 0, (1,), ((1, 2), (1, 1), (2, 2)))


def most_for(letters):
    return 2 if len(letters) == 3 else 3


def one_text(letters, text):
    """Takes this text alone."""
    dead = len(text) + 1
    rows = [tuple(room + 1 if letter == text[room] else dead for letter in letters) for room in range(len(text))]
    return (letters, 0, (len(text),), tuple(rows) + ((dead,) * len(letters),) * 2)


class WishOf(unittest.TestCase):
    def look_at(self, machine, k):
        wish = wish_of(machine, k)
        if parts_alike(machine, k):
            self.assertIsNone(wish, (machine, k))
            return None
        self.assertTrue(kinds_of_wish(wish), wish)
        self.assertLess(depth_in(wish), 100)
        for part in parts_in(wish):
            if part[0] == "has":
                self.assertLessEqual(len(part[1]), k)
                self.assertLessEqual(set(part[1]), set(machine[0]))
        self.assertEqual(machine_of(machine[0], wish), least(machine), (machine, k, wish))
        return wish

    def test_machines_that_take_none_and_all(self):
        for letters in ("a", "ab", "abc"):
            for k in range(most_for(letters) + 1):
                self.assertEqual(self.look_at((letters, 0, (), ((0,) * len(letters),)), k), ("never",))
                self.assertEqual(self.look_at((letters, 0, (0,), ((0,) * len(letters),)), k), ("always",))
                for machine in chance_machines(letters, 4, 3, 80):
                    self.assertIsNotNone(self.look_at((letters, machine[1], (), machine[3]), k))
                    self.assertIsNotNone(self.look_at((letters, machine[1], (0, 1, 2, 3), machine[3]), k))

    def test_one_text(self):
        for letters, texts in (("a", ("", "a", "aa", "aaa")), ("ab", ("", "b", "ab", "ba", "bb")),
                               ("abc", ("", "c", "ca", "abc", "bb"))):
            for text in texts:
                for k in range(most_for(letters) + 1):
                    wish = self.look_at(one_text(letters, text), k)
                    if wish is not None:
                        self.assertEqual([other for other in texts_of(letters, 4) if held(wish, other)], [text])
        self.assertIsNone(wish_of(one_text("ab", "ab"), 1))
        self.assertIsNotNone(wish_of(one_text("abc", "abc"), 2))
        self.assertIsNone(wish_of(one_text("a", "aaa"), 3))

    def test_a_word_is_told_as_it_is(self):
        for letters in ("a", "ab", "abc"):
            for word in texts_of(letters, most_for(letters)):
                machine = machine_of(letters, ("has", word))
                for k in range(most_for(letters) + 1):
                    wish = self.look_at(machine, k)
                    self.assertEqual(wish is None, k < len(word))
                    other = self.look_at(contrary(machine), k)
                    self.assertEqual(other is None, k < len(word))

    def test_wishes_machines(self):
        found = {}
        for letters in ("a", "ab", "abc"):
            for wish in chance_wishes(letters, 3, 40, 81):
                machine = machine_of(letters, wish)
                for k in range(most_for(letters) + 1):
                    told = self.look_at(machine, k)
                    if told is None:
                        self.assertLess(k, max(len(word) for word in words_in(wish)))
                    found[(len(letters), k, told is None)] = True
        for count, k in ((1, 1), (1, 2), (2, 1), (2, 2), (3, 1)):
            self.assertIn((count, k, True), found)
            self.assertIn((count, k, False), found)

    def test_drawn_machines(self):
        found = {}
        for letters in ("a", "ab", "cx", "abc"):
            for rooms in range(1, 7):
                machines = list(chance_machines(letters, rooms, 4, 82)) + list(rising_machines(letters, rooms, 12, 83))
                for machine in machines:
                    for k in range(most_for(letters) + 1):
                        found[(len(letters), k, self.look_at(machine, k) is None)] = True
        self.assertEqual(len(found), 2 * (4 + 4 + 3))

    def test_all_machines_of_two_rooms(self):
        for machine in all_machines("ab", 2):
            for k in range(3):
                self.look_at(machine, k)

    def test_machines_that_part_texts_that_are_alike(self):
        for machine in (ODD, BEGINS_WITH_A, contrary(ODD), ("abc", 0, (1,), ((1, 0, 0), (1, 0, 1)))):
            for k in range(most_for(machine[0]) + 1):
                self.assertIsNone(self.look_at(machine, k))

    def test_just_from_the_least_length_on(self):
        for letters in ("a", "ab", "abc"):
            for machine in rising_machines(letters, 5, 25, 84):
                least_k = least_length(machine)
                for k in range(most_for(letters) + 1):
                    self.assertEqual(wish_of(machine, k) is None, least_k is None or k < least_k)

    def test_told_machines(self):
        one = machine_of("ab", ("has", "aab"))
        other = machine_of("ab", ("has", "bba"))
        for machine in (both(one, other), either(one, contrary(other)), both(contrary(one), contrary(other))):
            self.assertIsNotNone(self.look_at(machine, 3))
            self.assertIsNone(self.look_at(machine, 2))
            self.assertIsNotNone(self.look_at(swollen(machine), 3))

    def test_each_text_by_its_words_alone(self):
        # Machines with a room for each set of words of at most k letters: the most that is to be told apart.
        for letters, k in (("ab", 3), ("abc", 2)):
            def step(words, letter):
                return tuple(sorted(set(words) | {word + letter for word in words if len(word) < k}))
            for number in (2, 3, 7):
                machine = machine_from(letters, ("",), step, lambda words: sum(map(len, words)) % number == 0)
                self.assertIsNotNone(self.look_at(machine, k))

    def test_what_is_told_is_handed_on(self):
        machine = machine_of("ab", ("or", ("has", "aba"), ("not", ("has", "bb"))))
        wish = self.look_at(machine, 3)
        self.assertEqual(read_wish(show_wish(wish)), wish)
        self.assertEqual(depth_of(wish), depth_in(wish))
        for text in texts_of("ab", 6):
            self.assertEqual(holds(wish, text), taken(machine, text))
        # A told word in a wish, and that wish's machine.
        word = parting("abbaabba", "abbabba")[1]
        self.assertIsNone(self.look_at(machine_of("ab", ("has", word)), 3))

    def test_asked_again(self):
        machine = machine_of("ab", ("or", ("has", "ab"), ("not", ("has", "b"))))
        kept = wish_of(machine, 2)
        wish_of(contrary(machine), 2)
        wish_of(machine, 1)
        self.assertEqual(wish_of(machine, 2), kept)


class Depth(unittest.TestCase):
    def test_depth(self):
        for wish in chance_wishes("ab", 5, 60, 85):
            self.assertEqual(depth_of(wish), depth_in(wish))

    def test_deeper_than_calls_go(self):
        wish = ("always",)
        for number in range(20000):
            wish = ("not", wish)
        self.assertEqual(depth_of(wish), 20000)
