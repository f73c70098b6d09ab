import unittest

from spreadwords.spreads import spread_words
from tests.plain import in_order, lies_in, texts_of, words_in_text


class SpreadWords(unittest.TestCase):
    def test_all_short_texts(self):
        for letters, most in (("a", 7), ("ab", 6), ("abc", 5)):
            for text in texts_of(letters, most):
                for k in range(5):
                    self.assertEqual(spread_words(text, k), in_order(words_in_text(text, k)), (text, k))

    def test_only_the_word_without_letters_to_nought(self):
        for text in ("", "a", "abcabc", "ab" * 15):
            self.assertEqual(spread_words(text, 0), [""])

    def test_the_text_without_letters(self):
        for k in range(5):
            self.assertEqual(spread_words("", k), [""])

    def test_k_beyond_the_texts_length(self):
        self.assertEqual(spread_words("ba", 4), ["", "a", "b", "ba"])
        self.assertEqual(spread_words("c", 4), ["", "c"])

    def test_shorter_ones_first_then_as_texts_each_once(self):
        self.assertEqual(spread_words("bab", 3), ["", "a", "b", "ab", "ba", "bb", "bab"])
        self.assertEqual(spread_words("zza", 2), ["", "a", "z", "za", "zz"])

    def test_thirty_letters(self):
        for text in ("abc" * 10, "abcbacabcbbacacbabcacbbcaabcba", "a" * 30, "a" * 15 + "b" * 15, "cba" * 10):
            letters = "".join(sorted(set(text)))
            for k in range(5):
                wanted = [word for word in texts_of(letters, k) if lies_in(word, text)]
                self.assertEqual(spread_words(text, k), wanted)
        self.assertEqual(len(spread_words("abc" * 10, 4)), 1 + 3 + 9 + 27 + 81)

    def test_a_told_list_is_the_askers_own(self):
        for text, k in (("abab", 3), ("", 2), ("ab", 0)):
            told = spread_words(text, k)
            kept = list(told)
            told.append("c")
            told[0] = "b"
            spread_words("bcbc", 3).clear()
            self.assertEqual(spread_words(text, k), kept)

    def test_kinds(self):
        told = spread_words("abcab", 3)
        self.assertIs(type(told), list)
        self.assertTrue(all(type(word) is str for word in told))
