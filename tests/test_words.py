import unittest
from itertools import permutations
from math import comb

from spreadwords.words import is_letters, is_word, places, spread_in, ways
from tests.plain import lies_in, rows_of_places, texts_of

SMALL = "abcdefghijklmnopqrstuvwxyz"
OTHER_SIGNS = ["A", "Z", "0", "9", " ", "\n", "\t", ".", "`", "{", "~", "-", "\u00e4", "\u00df", "\uff41", "\u0131",
               "\u0000", "\U0001d41a"]


class Letters(unittest.TestCase):
    def test_one_to_three_rising_unlike_small_letters(self):
        for letter in SMALL:
            self.assertIs(is_letters(letter), True)
        for text in ("ab", "az", "yz", "abc", "axz", "xyz", "amz"):
            self.assertIs(is_letters(text), True)

    def test_every_text_of_small_letters_up_to_four(self):
        for text in texts_of("amz", 4):
            good = 1 <= len(text) <= 3 and sorted(set(text)) == list(text)
            self.assertIs(is_letters(text), good, text)

    def test_none_and_four(self):
        for text in ("", "abcd", "wxyz", SMALL):
            self.assertIs(is_letters(text), False)

    def test_one_twice(self):
        for text in ("aa", "aab", "abb", "aba", "zzz"):
            self.assertIs(is_letters(text), False)

    def test_falling(self):
        for order in permutations("abc"):
            self.assertIs(is_letters("".join(order)), order == ("a", "b", "c"))
        self.assertIs(is_letters("ba"), False)

    def test_other_signs(self):
        for sign in OTHER_SIGNS:
            for text in (sign, sign + "a", "a" + sign, "ab" + sign, "a" + sign + "b", sign + "ab"):
                self.assertIs(is_letters(text), False, repr(text))

    def test_rising_texts_of_other_signs(self):
        for text in ("AB", "012", "Aab", "9a", "\nab", "ab\n", "abc\n", " a"):
            self.assertIs(is_letters(text), False, repr(text))


class Words(unittest.TestCase):
    def test_the_text_without_signs(self):
        self.assertIs(is_word(""), True)

    def test_long_words(self):
        for word in (SMALL, SMALL[::-1], SMALL * 40, "z" * 1000):
            self.assertIs(is_word(word), True)

    def test_one_other_sign(self):
        for sign in OTHER_SIGNS:
            for word in ("", "a", "ab", SMALL * 3):
                self.assertIs(is_word(sign + word), False, repr(sign))
                self.assertIs(is_word(word + sign), False, repr(sign))
                self.assertIs(is_word(word + sign + word), False, repr(sign))

    def test_each_sign_by_itself(self):
        for number in range(0, 400):
            self.assertIs(is_word(chr(number)), chr(number) in SMALL, number)


class Spread(unittest.TestCase):
    def look(self, word, text):
        rows = rows_of_places(word, text)
        self.assertEqual(places(word, text), min(rows) if rows else None, (word, text))
        self.assertIs(spread_in(word, text), bool(rows), (word, text))
        self.assertEqual(ways(word, text), len(rows), (word, text))

    def test_all_short_words_and_texts_of_two_letters(self):
        for text in texts_of("ab", 6):
            for word in texts_of("ab", 4):
                self.look(word, text)

    def test_all_short_words_and_texts_of_three_letters(self):
        for text in texts_of("abc", 4):
            for word in texts_of("abc", 3):
                self.look(word, text)

    def test_the_word_without_letters(self):
        for text in ("", "a", "abc", "ab" * 15):
            self.assertEqual(places("", text), [])
            self.assertIs(spread_in("", text), True)
            self.assertEqual(ways("", text), 1)

    def test_the_text_without_letters(self):
        for word in ("a", "ab", "aaaaaa"):
            self.assertIsNone(places(word, ""))
            self.assertIs(spread_in(word, ""), False)
            self.assertEqual(ways(word, ""), 0)

    def test_the_first_of_several_rows(self):
        self.assertEqual(places("ab", "cabab"), [1, 2])
        self.assertEqual(places("ba", "abcba"), [1, 4])
        self.assertEqual(places("aab", "babaabb"), [1, 3, 5])
        self.assertEqual(ways("ab", "cabab"), 3)

    def test_one_that_does_not_lie_spread(self):
        for word, text in (("ba", "ab"), ("aa", "a"), ("c", "abab"), ("abab", "aabb"), ("aaaaaa", "aaaaa")):
            self.assertIsNone(places(word, text))
            self.assertIs(spread_in(word, text), False)
            self.assertEqual(ways(word, text), 0)

    def test_one_letter_again_and_again(self):
        for length in range(31):
            for count in range(7):
                self.assertEqual(ways("a" * count, "a" * length), comb(length, count))

    def test_thirty_letters(self):
        self.assertEqual(ways("abc", "abc" * 10), comb(12, 3))
        self.assertEqual(ways("aabb", "a" * 15 + "b" * 15), comb(15, 2) ** 2)
        self.look("abcabc", "abcabcabcabcabcabc" + "aabbccaabbcc")
        self.assertEqual(places("cbacba", "abc" * 10), [2, 4, 6, 8, 10, 12])
        self.assertEqual(places("ccc", "ab" * 13 + "cabc"), None)
        self.assertEqual(places("cc", "ab" * 13 + "cabc"), [26, 29])

    def test_agrees_with_reading_on(self):
        text = "abcbacabcbbacacbabcacbbcaabcba"
        self.assertEqual(len(text), 30)
        for word in texts_of("abc", 6):
            self.assertIs(spread_in(word, text), lies_in(word, text))
            self.assertEqual(spread_in(word, text), ways(word, text) > 0)

    def test_kinds(self):
        self.assertIs(type(places("ab", "ab")), list)
        self.assertTrue(all(type(place) is int for place in places("ab", "cab")))
        for word, text in (("", ""), ("a", ""), ("a", "a"), ("ab", "abab")):
            self.assertIs(type(ways(word, text)), int)

    def test_a_told_list_is_the_askers_own(self):
        for word, text in (("ab", "cabab"), ("", "ab")):
            told = places(word, text)
            kept = list(told)
            told.append(99)
            told[0] = 77
            places("ba", "bababa")
            self.assertEqual(places(word, text), kept)
            self.assertIsNot(places(word, text), places(word, text))
