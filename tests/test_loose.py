import unittest

from spreadwords.loose import fillings, loose
from tests.plain import alike_to, texts_of

TWELVE = ["ab" * 6, "aabb" * 3, "abc" * 4, "a" * 12, "aaaabbbbcccc", "abcbacabccba"]


def loose_places(text, k):
    return [place for place in range(len(text)) if alike_to(text, text[:place] + text[place + 1:], k)]


def filling_pairs(letters, text, k):
    return sorted((place, letter) for letter in letters for place in range(len(text) + 1)
                  if alike_to(text, text[:place] + letter + text[place:], k))


class Loose(unittest.TestCase):
    def test_all_short_texts(self):
        for letters, most in (("a", 8), ("ab", 6), ("abc", 4)):
            for text in texts_of(letters, most):
                for k in range(7):
                    self.assertEqual(loose(text, k), loose_places(text, k), (text, k))

    def test_twelve_letters(self):
        for text in TWELVE:
            for k in range(7):
                self.assertEqual(loose(text, k), loose_places(text, k), (text, k))

    def test_all_are_loose_to_nought(self):
        self.assertEqual(loose("abc", 0), [0, 1, 2])

    def test_to_one_all_letters_that_stand_twice(self):
        self.assertEqual(loose("abca", 1), [0, 3])
        self.assertEqual(loose("abc", 1), [])

    def test_to_six(self):
        self.assertEqual(loose("a" * 6, 6), [])
        self.assertEqual(loose("a" * 7, 6), [0, 1, 2, 3, 4, 5, 6])

    def test_the_text_without_letters(self):
        for k in range(7):
            self.assertEqual(loose("", k), [])

    def test_a_told_list_is_the_askers_own(self):
        told = loose("abab", 1)
        told.append(9)
        told[0] = 8
        loose("aa", 0).clear()
        self.assertEqual(loose("abab", 1), [0, 1, 2, 3])

    def test_kinds(self):
        told = loose("aab", 1)
        self.assertIs(type(told), list)
        self.assertTrue(all(type(place) is int for place in told))


class Fillings(unittest.TestCase):
    def test_all_short_texts(self):
        for letters, given, most in (("a", "a", 8), ("ab", "ab", 6), ("ab", "abc", 3), ("abc", "abc", 3)):
            for text in texts_of(letters, most):
                for k in range(7):
                    self.assertEqual(fillings(given, text, k), filling_pairs(given, text, k), (given, text, k))

    def test_twelve_letters(self):
        for text in TWELVE:
            for k in range(7):
                for given in ("a", "abc", "bc"):
                    self.assertEqual(fillings(given, text, k), filling_pairs(given, text, k), (given, text, k))

    def test_every_place_and_letter_to_nought(self):
        self.assertEqual(fillings("ac", "b", 0), [(0, "a"), (0, "c"), (1, "a"), (1, "c")])
        self.assertEqual(fillings("abc", "", 0), [(0, "a"), (0, "b"), (0, "c")])

    def test_a_letter_that_the_text_lacks(self):
        for k in range(1, 7):
            self.assertEqual(fillings("c", "abab", k), [])
        self.assertEqual(fillings("ac", "ab", 1), [(0, "a"), (1, "a"), (2, "a")])

    def test_ahead_of_all_and_behind_all(self):
        self.assertEqual(fillings("ab", "ab", 1), [(place, letter) for place in range(3) for letter in "ab"])
        self.assertEqual(fillings("a", "aaaaa", 6), [])
        self.assertEqual(fillings("a", "aaaaaa", 6), [(place, "a") for place in range(7)])

    def test_the_text_without_letters(self):
        for k in range(1, 7):
            self.assertEqual(fillings("abc", "", k), [])

    def test_only_the_letters_given(self):
        self.assertEqual(fillings("b", "aabb", 1), [(place, "b") for place in range(5)])

    def test_a_told_list_is_the_askers_own(self):
        told = fillings("a", "aa", 1)
        told.append((9, "z"))
        told[0] = (8, "y")
        fillings("ab", "ab", 0).clear()
        self.assertEqual(fillings("a", "aa", 1), [(0, "a"), (1, "a"), (2, "a")])

    def test_kinds(self):
        told = fillings("ab", "ab", 1)
        self.assertIs(type(told), list)
        for pair in told:
            self.assertEqual([type(part) for part in pair], [int, str])
            self.assertIs(type(pair), tuple)
