import unittest

from spreadwords.arches import absent, arches
from tests.plain import lies_in, texts_of


def first_absent(letters, text):
    return next(word for word in texts_of(letters, len(text) + 1) if not lies_in(word, text))


def all_letters_stand_in(letters, piece):
    return set(letters) <= set(piece)


class Arches(unittest.TestCase):
    def look(self, letters, text):
        told = arches(letters, text)
        self.assertIs(type(told), tuple)
        self.assertEqual("".join(told), text)
        for piece in told[:-1]:
            self.assertTrue(all_letters_stand_in(letters, piece), (letters, text))
            self.assertFalse(all_letters_stand_in(letters, piece[:-1]), (letters, text))
        self.assertFalse(all_letters_stand_in(letters, told[-1]), (letters, text))

    def test_all_short_texts(self):
        for letters, most in (("a", 8), ("ab", 8), ("abc", 6)):
            for text in texts_of(letters, most):
                self.look(letters, text)

    def test_the_text_without_letters(self):
        for letters in ("a", "ab", "abc"):
            self.assertEqual(arches(letters, ""), ("",))

    def test_a_last_piece_without_signs(self):
        self.assertEqual(arches("ab", "abba"), ("ab", "ba", ""))
        self.assertEqual(arches("abc", "aabbc"), ("aabbc", ""))
        self.assertEqual(arches("a", "aa"), ("a", "a", ""))

    def test_a_last_piece_with_signs(self):
        self.assertEqual(arches("ab", "aabaa"), ("aab", "aa"))
        self.assertEqual(arches("abc", "cbaabbca"), ("cba", "abbc", "a"))

    def test_a_letter_that_lacks_in_the_text(self):
        self.assertEqual(arches("abc", "abab"), ("abab",))
        self.assertEqual(arches("xyz", "y"), ("y",))

    def test_thirty_letters(self):
        self.assertEqual(arches("abc", "abc" * 10), ("abc",) * 10 + ("",))
        self.assertEqual(arches("a", "a" * 30), ("a",) * 30 + ("",))
        self.assertEqual(arches("abc", "a" * 28 + "bc"), ("a" * 28 + "bc", ""))

    def test_asked_again(self):
        kept = arches("ab", "abba")
        arches("abc", "cab")
        self.assertEqual(arches("ab", "abba"), kept)


class Absent(unittest.TestCase):
    def test_all_short_texts_against_a_search(self):
        for letters, most in (("a", 8), ("ab", 9), ("abc", 6), ("acz", 5)):
            for text in texts_of(letters, most):
                self.assertEqual(absent(letters, text), first_absent(letters, text), (letters, text))

    def test_one_letter_more_than_arches(self):
        for letters, text in (("ab", "ab" * 15), ("abc", "abc" * 10), ("a", "a" * 30), ("abc", "cab" * 10),
                              ("abc", "abcbacabcbbacacbabcacbbcaabcba")):
            word = absent(letters, text)
            self.assertEqual(len(word), len(arches(letters, text)))
            self.assertFalse(lies_in(word, text))

    def test_thirty_letters_against_a_search(self):
        for letters, text in (("a", "a" * 30), ("ab", "ab" * 15), ("ab", "aab" * 10), ("ab", "abba" * 7 + "ab"),
                              ("abc", "aabbcc" * 5), ("abc", "abcbacabcbbacacbabcacbbcaabcba")):
            self.assertEqual(absent(letters, text), first_absent(letters, text), (letters, text))

    def test_the_text_without_letters(self):
        for letters in ("a", "bc", "abc"):
            self.assertEqual(absent(letters, ""), letters[0])

    def test_a_letter_that_lacks_in_the_text(self):
        self.assertEqual(absent("abc", "abab"), "c")
        self.assertEqual(absent("abc", "bcbc"), "a")
        self.assertEqual(absent("ab", "aaaa"), "b")

    def test_kinds(self):
        self.assertIs(type(absent("ab", "ba")), str)
