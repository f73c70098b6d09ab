import unittest

from spreadwords.cuts import ahead, behind
from spreadwords.joined import both, contrary, either
from spreadwords.least import least
from spreadwords.machines import takes
from tests.plain import chance_machines, kinds_of, kinds_of_machine, taken, texts_of

# Takes the texts that begin with a and end with b.
FROM_A_TO_B = ("ab", 0, (2,), ((1, 3), (1, 2), (1, 2), (3, 3)))
SOME_B_LAST = ("ab", 0, (1,), ((0, 1), (0, 1)))


class Cuts(unittest.TestCase):
    def least_of_its_kinds(self, machine):
        letters, begin, ends, steps = machine
        self.assertEqual(least(machine), machine)
        self.assertEqual(kinds_of(machine), kinds_of_machine(len(letters), len(ends), len(steps)))

    def test_by_hand(self):
        self.assertEqual(behind(FROM_A_TO_B, "a"), SOME_B_LAST)
        self.assertEqual(behind(FROM_A_TO_B, "ab"), ("ab", 0, (0,), ((1, 0), (1, 0))))
        self.assertEqual(behind(FROM_A_TO_B, "b"), ("ab", 0, (), ((0, 0),)))
        self.assertEqual(ahead(FROM_A_TO_B, "b"), ("ab", 0, (1,), ((1, 2), (1, 1), (2, 2))))
        self.assertEqual(ahead(FROM_A_TO_B, "ab"), ("ab", 0, (0, 1), ((1, 2), (1, 1), (2, 2))))
        self.assertEqual(ahead(FROM_A_TO_B, "a"), ("ab", 0, (), ((0, 0),)))

    def test_the_order_of_the_words_letters(self):
        # Takes ab alone.
        only = ("ab", 0, (2,), ((1, 3), (3, 2), (3, 3), (3, 3)))
        nothing_more = ("ab", 0, (0,), ((1, 1), (1, 1)))
        nothing = ("ab", 0, (), ((0, 0),))
        self.assertEqual(behind(only, "ab"), nothing_more)
        self.assertEqual(ahead(only, "ab"), nothing_more)
        self.assertEqual(behind(only, "ba"), nothing)
        self.assertEqual(ahead(only, "ba"), nothing)

    def test_the_word_without_letters(self):
        for letters in ("a", "ab", "abc"):
            for rooms in range(1, 7):
                for machine in chance_machines(letters, rooms, 15, 17):
                    self.assertEqual(behind(machine, ""), least(machine))
                    self.assertEqual(ahead(machine, ""), least(machine))

    def test_against_takes_of_the_joined_text(self):
        for letters, rooms, longest in (("a", 6, 6), ("ab", 5, 4), ("ab", 6, 3), ("abc", 4, 2), ("cx", 2, 3)):
            texts = list(texts_of(letters, 4))
            for machine in chance_machines(letters, rooms, 6, 18):
                for word in texts_of(letters, longest):
                    later = behind(machine, word)
                    earlier = ahead(machine, word)
                    self.least_of_its_kinds(later)
                    self.least_of_its_kinds(earlier)
                    for text in texts:
                        self.assertIs(takes(later, text), taken(machine, word + text))
                        self.assertIs(takes(earlier, text), taken(machine, text + word))

    def test_words_of_five_and_six_letters(self):
        for machine in chance_machines("abc", 6, 6, 19):
            for word in ("abcab", "ccbaa", "abcabc", "bbbacb", "aaaaaa"):
                later = behind(machine, word)
                earlier = ahead(machine, word)
                for text in texts_of("abc", 4):
                    self.assertIs(takes(later, text), taken(machine, word + text))
                    self.assertIs(takes(earlier, text), taken(machine, text + word))

    def test_letter_by_letter(self):
        for machine in chance_machines("ab", 6, 10, 20):
            for word in ("ab", "ba", "abb", "baba"):
                step_by_step = machine
                for letter in word:
                    step_by_step = behind(step_by_step, letter)
                self.assertEqual(behind(machine, word), step_by_step)
                step_by_step = machine
                for letter in reversed(word):
                    step_by_step = ahead(step_by_step, letter)
                self.assertEqual(ahead(machine, word), step_by_step)

    def test_cut_what_is_put_together(self):
        pairs = zip(chance_machines("ab", 4, 12, 21), chance_machines("ab", 5, 12, 22))
        for one, other in pairs:
            for cut in (behind, ahead):
                for word in ("a", "ba", "bbab"):
                    self.assertEqual(cut(contrary(one), word), contrary(cut(one, word)))
                    self.assertEqual(cut(both(one, other), word), both(cut(one, word), cut(other, word)))
                    self.assertEqual(cut(either(one, other), word), either(cut(one, word), cut(other, word)))

    def test_told_machines_of_more_than_six_rooms(self):
        ring = [((room + 1) % 6, room) for room in range(6)]
        other_ring = [(room, (room + 1) % 5) for room in range(5)]
        machine = both(("ab", 0, (0,), tuple(ring)), ("ab", 0, (0,), tuple(other_ring)))
        self.assertEqual(len(machine[3]), 30)
        for cut in (behind, ahead):
            told = cut(machine, "aab")
            self.assertEqual(len(told[3]), 30)
            self.assertIs(takes(told, "aaaabbbb"), True)
            self.assertIs(takes(told, "aaaabbb"), False)
            self.least_of_its_kinds(told)

    def test_nothing_is_changed_and_asked_again(self):
        kept = ("ab", 0, (2,), ((1, 3), (1, 2), (1, 2), (3, 3)))
        told = (behind(FROM_A_TO_B, "ab"), ahead(FROM_A_TO_B, "ab"))
        behind(SOME_B_LAST, "b")
        self.assertEqual((behind(FROM_A_TO_B, "ab"), ahead(FROM_A_TO_B, "ab")), told)
        self.assertEqual(FROM_A_TO_B, kept)
