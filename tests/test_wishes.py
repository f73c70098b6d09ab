import unittest

from spreadwords.parted import parting
from spreadwords.wishes import holds, words_in
from tests.plain import chance_wishes, held, lies_in, texts_of

ALWAYS = ("always",)
NEVER = ("never",)
A = ("has", "a")
AB = ("has", "ab")


def words_by_hand(wish):
    if wish[0] == "has":
        return {wish[1]}
    return {word for part in wish[1:] for word in words_by_hand(part)}


class Holds(unittest.TestCase):
    def test_always_and_never(self):
        for text in texts_of("ab", 3):
            self.assertIs(holds(ALWAYS, text), True)
            self.assertIs(holds(NEVER, text), False)

    def test_has(self):
        for word in texts_of("ab", 3):
            for text in texts_of("ab", 5):
                self.assertIs(holds(("has", word), text), lies_in(word, text))
        self.assertIs(holds(("has", "cab"), "acbacb"), True)
        self.assertIs(holds(("has", "cab"), "bacab"[:3]), False)

    def test_has_of_the_word_without_letters(self):
        for text in texts_of("abc", 2):
            self.assertIs(holds(("has", ""), text), True)
            self.assertIs(holds(("not", ("has", "")), text), False)

    def test_not_and_or(self):
        for wish, wanted in ((("not", A), [True, False, True, False]), (("and", A, ("has", "b")), [False, False, False, True]),
                             (("or", A, ("has", "b")), [False, True, True, True]),
                             (("and", A, ("not", ("has", "b"))), [False, True, False, False]),
                             (("or", ("not", A), ("has", "b")), [True, False, True, True])):
            told = [holds(wish, text) for text in ("", "a", "b", "ba")]
            self.assertEqual(told, wanted)
            self.assertEqual([type(value) for value in told], [bool] * 4)

    def test_the_truths_of_and_and_or(self):
        for one, first in ((ALWAYS, True), (NEVER, False)):
            self.assertIs(holds(("not", one), "a"), not first)
            for other, second in ((ALWAYS, True), (NEVER, False)):
                self.assertIs(holds(("and", one, other), "a"), first and second)
                self.assertIs(holds(("or", one, other), "a"), first or second)

    def test_nested_ones(self):
        wish = ("and", ("or", AB, ("not", ("has", "b"))), ("not", ("and", ("has", "ba"), ("or", NEVER, A))))
        for text in texts_of("ab", 5):
            self.assertIs(holds(wish, text), held(wish, text))

    def test_against_a_plain_look(self):
        for letters in ("a", "ab", "abc"):
            texts = list(texts_of(letters, 4))
            for wish in chance_wishes(letters, 4, 60, 31):
                for text in texts:
                    self.assertIs(holds(wish, text), held(wish, text), (wish, text))

    def test_long_texts_and_told_words(self):
        text = "ab" * 15
        other = "ab" * 14 + "ba"
        word = parting(text, other)[1]
        self.assertNotEqual(holds(("has", word), text), holds(("has", word), other))
        self.assertIs(holds(("not", ("has", "abb")), text), False)

    def test_a_hundred_deep(self):
        wish = AB
        for again in range(50):
            wish = ("not", ("and", wish, ("or", ALWAYS, A)))
        self.assertIs(holds(wish, "aab"), True)
        self.assertIs(holds(wish, "ba"), False)
        self.assertIs(holds(("not", wish), "ba"), True)

    def test_nothing_is_changed_and_asked_again(self):
        wish = ("or", AB, ("not", A))
        kept = holds(wish, "ba")
        holds(("has", "ba"), "ba")
        self.assertIs(holds(wish, "ba"), kept)
        self.assertEqual(wish, ("or", ("has", "ab"), ("not", ("has", "a"))))


class WordsIn(unittest.TestCase):
    def test_none(self):
        for wish in (ALWAYS, NEVER, ("not", NEVER), ("and", ALWAYS, ("or", NEVER, ALWAYS))):
            self.assertEqual(words_in(wish), [])

    def test_each_once(self):
        self.assertEqual(words_in(A), ["a"])
        self.assertEqual(words_in(("and", A, ("or", A, ("not", A)))), ["a"])
        self.assertEqual(words_in(("and", ("and", AB, A), ("and", A, AB))), ["a", "ab"])

    def test_shorter_ones_first_then_as_texts(self):
        wish = NEVER
        for word in ("ba", "b", "aab", "abc", "", "c", "ab", "aaa", "b"):
            wish = ("or", ("has", word), wish)
        self.assertEqual(words_in(wish), ["", "b", "c", "ab", "ba", "aaa", "aab", "abc"])
        self.assertEqual(words_in(("and", ("has", "b"), ("has", "aa"))), ["b", "aa"])
        self.assertEqual(words_in(("or", ("has", "zz"), ("not", ("has", "aaa")))), ["zz", "aaa"])

    def test_the_word_without_letters(self):
        self.assertEqual(words_in(("has", "")), [""])
        self.assertEqual(words_in(("not", ("and", ("has", "a"), ("has", "")))), ["", "a"])

    def test_against_a_plain_look(self):
        for wish in chance_wishes("abc", 5, 150, 32):
            self.assertEqual(words_in(wish), sorted(words_by_hand(wish), key=lambda word: (len(word), word)))

    def test_the_told_list_changed_then_asked_again(self):
        wish = ("and", AB, A)
        told = words_in(wish)
        self.assertIs(type(told), list)
        told.append("zzz")
        told[0] = "q"
        self.assertEqual(words_in(wish), ["a", "ab"])
        self.assertEqual(wish, ("and", ("has", "ab"), ("has", "a")))
        self.assertIsNot(words_in(wish), words_in(wish))
        words_in(ALWAYS).append("x")
        self.assertEqual(words_in(ALWAYS), [])
