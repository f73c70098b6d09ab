import unittest
from itertools import product

from spreadwords.parted import alike, parting
from tests.plain import alike_to, first_parting, lies_in, texts_of

LONG = ["ab" * 15, "ba" * 15, "aab" * 10, "abb" * 10, "a" * 30, "a" * 15 + "b" * 15, "b" * 15 + "a" * 15,
        "ab" * 14 + "ba", "aabb" * 7 + "aa"]


class Parting(unittest.TestCase):
    def test_all_pairs_of_short_texts(self):
        for letters, most in (("a", 6), ("ab", 5), ("abc", 3)):
            texts = list(texts_of(letters, most))
            for one, other in product(texts, texts):
                told = parting(one, other)
                if one == other:
                    self.assertIsNone(told)
                else:
                    word = first_parting(one, other)
                    self.assertEqual(told, (len(word) - 1, word), (one, other))

    def test_the_same_texts(self):
        for text in ["", "a", "abcabc", "abc" * 10] + LONG:
            self.assertIsNone(parting(text, text))

    def test_a_begin_of_the_other(self):
        self.assertEqual(parting("", "a"), (0, "a"))
        self.assertEqual(parting("", "cb"), (0, "b"))
        self.assertEqual(parting("ab", "abc"), (0, "c"))
        self.assertEqual(parting("ab", "aba"), (1, "aa"))
        self.assertEqual(parting("abab", "ababa"), (2, "aaa"))
        self.assertEqual(parting("a" * 29, "a" * 30), (29, "a" * 30))

    def test_one_letter_differs(self):
        self.assertEqual(parting("aaa", "aba"), (0, "b"))
        self.assertEqual(parting("abab", "abbb"), (1, "aa"))
        self.assertEqual(parting("acb", "abb"), (0, "c"))
        self.assertEqual(parting("ab", "ba"), (1, "ab"))

    def test_the_first_of_several_words(self):
        # Both ab and bc part these, and so does cb; ab is the first.
        self.assertEqual(parting("abc", "cba"), (1, "ab"))
        self.assertEqual(parting("bca", "cba"), (1, "bc"))

    def test_pieces_again_and_again(self):
        for one, other in product(LONG, LONG):
            if one != other:
                told = parting(one, other)
                word = first_parting(one, other)
                self.assertEqual(told, (len(word) - 1, word), (one, other))

    def test_long_parting_words(self):
        self.assertEqual(parting("ab" * 15, "ba" * 15), (15, "a" * 15 + "b"))
        self.assertEqual(parting("ab" * 15, "ab" * 14 + "ba"), (15, "a" * 15 + "b"))
        k, word = parting("abc" * 10, "abc" * 9 + "acb")
        self.assertEqual(k + 1, len(word))
        self.assertNotEqual(lies_in(word, "abc" * 10), lies_in(word, "abc" * 9 + "acb"))
        self.assertGreater(k, 8)

    def test_exchanged(self):
        texts = list(texts_of("ab", 4)) + LONG
        for one, other in product(texts, texts):
            self.assertEqual(parting(one, other), parting(other, one))

    def test_kinds(self):
        told = parting("ab", "ba")
        self.assertIs(type(told), tuple)
        self.assertIs(type(told[0]), int)
        self.assertIs(type(told[1]), str)

    def test_asked_again(self):
        first = parting("abab", "abba")
        parting("c", "cc")
        self.assertEqual(parting("abab", "abba"), first)


class Alike(unittest.TestCase):
    def test_all_pairs_of_short_texts(self):
        for letters, most in (("a", 5), ("ab", 4), ("abc", 3)):
            texts = list(texts_of(letters, most))
            for one, other in product(texts, texts):
                for k in range(6):
                    self.assertIs(alike(one, other, k), alike_to(one, other, k), (one, other, k))

    def test_all_are_alike_to_nought(self):
        for one, other in product(["", "a", "b", "abc", "c" * 30], repeat=2):
            self.assertIs(alike(one, other, 0), True)

    def test_up_to_the_told_k_and_no_further(self):
        pairs = [pair for pair in product(LONG, LONG) if pair[0] != pair[1]]
        for one, other in pairs + [("", "a"), ("abab", "abba"), ("a" * 29, "a" * 30)]:
            k = parting(one, other)[0]
            for length in range(k + 1):
                self.assertIs(alike(one, other, length), True)
            for length in (k + 1, k + 2, 40):
                self.assertIs(alike(one, other, length), False)

    def test_the_same_texts_to_forty(self):
        for text in ["", "a", "abc" * 10] + LONG:
            self.assertIs(alike(text, text, 40), True)
