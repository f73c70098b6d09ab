import unittest

from spreadwords.moved import wish_ahead, wish_behind, wish_turned
from spreadwords.wishes import holds
from tests.plain import chance_wishes, held, kinds_of, texts_of

# By a word what is left of it behind a, and ahead of a.
MOVED = {"": ("", ""), "a": ("", ""), "b": ("b", "b"), "aa": ("a", "a"), "ab": ("b", "ab"), "ba": ("ba", "b"),
         "bb": ("bb", "bb"), "aab": ("ab", "aab"), "baa": ("baa", "ba"), "aba": ("ba", "ab"), "aaa": ("aa", "aa"),
         "bab": ("bab", "bab"), "cab": ("cab", "cab"), "abaaba": ("baaba", "abaab")}


class Moved(unittest.TestCase):
    def test_each_word(self):
        for word, (behind, ahead) in MOVED.items():
            self.assertEqual(wish_behind(("has", word), "a"), ("has", behind))
            self.assertEqual(wish_ahead(("has", word), "a"), ("has", ahead))

    def test_a_letter_that_stands_in_none(self):
        wish = ("and", ("has", "ab"), ("not", ("or", ("has", "ba"), ("has", ""))))
        for letter in "cz":
            self.assertEqual(wish_behind(wish, letter), wish)
            self.assertEqual(wish_ahead(wish, letter), wish)

    def test_all_else_stays(self):
        for wish in (("always",), ("never",), ("not", ("always",)), ("and", ("never",), ("always",)),
                     ("or", ("always",), ("never",))):
            for letter in "an":
                self.assertEqual(wish_behind(wish, letter), wish)
                self.assertEqual(wish_ahead(wish, letter), wish)
            self.assertEqual(wish_turned(wish), wish)

    def test_each_part(self):
        wish = ("or", ("and", ("has", "ab"), ("not", ("has", "ba"))), ("or", ("has", "aa"), ("has", "ab")))
        self.assertEqual(wish_behind(wish, "a"), ("or", ("and", ("has", "b"), ("not", ("has", "ba"))),
                                                  ("or", ("has", "a"), ("has", "b"))))
        self.assertEqual(wish_ahead(wish, "a"), ("or", ("and", ("has", "ab"), ("not", ("has", "b"))),
                                                 ("or", ("has", "a"), ("has", "ab"))))
        self.assertEqual(wish_turned(wish), ("or", ("and", ("has", "ba"), ("not", ("has", "ab"))),
                                             ("or", ("has", "aa"), ("has", "ba"))))

    def test_words_that_say_what_a_wish_may_say(self):
        wish = ("not", ("and", ("has", "not"), ("or", ("has", "has"), ("has", "never"))))
        self.assertEqual(wish_behind(wish, "n"), ("not", ("and", ("has", "ot"), ("or", ("has", "has"), ("has", "ever")))))
        self.assertEqual(wish_ahead(wish, "s"), ("not", ("and", ("has", "not"), ("or", ("has", "ha"), ("has", "never")))))
        self.assertEqual(wish_turned(wish),
                         ("not", ("and", ("has", "ton"), ("or", ("has", "sah"), ("has", "reven")))))

    def test_holds_of_the_longer_text(self):
        for letters in ("a", "ab", "abc"):
            texts = list(texts_of(letters, 3))
            for wish in chance_wishes(letters, 4, 40, 41):
                turned = wish_turned(wish)
                for letter in letters:
                    behind = wish_behind(wish, letter)
                    ahead = wish_ahead(wish, letter)
                    for text in texts:
                        self.assertIs(holds(behind, text), held(wish, letter + text), (wish, letter, text))
                        self.assertIs(holds(ahead, text), held(wish, text + letter), (wish, letter, text))
                for text in texts:
                    self.assertIs(holds(turned, text), held(wish, text[::-1]), (wish, text))

    def test_turned_twice(self):
        for wish in chance_wishes("abc", 5, 80, 42):
            self.assertEqual(wish_turned(wish_turned(wish)), wish)
            for letter in "abc":
                self.assertEqual(wish_turned(wish_behind(wish, letter)), wish_ahead(wish_turned(wish), letter))

    def test_letter_by_letter(self):
        wish = ("and", ("has", "aba"), ("not", ("has", "aab")))
        for letter in "ab":
            wish = wish_behind(wish, letter)
        self.assertEqual(wish, ("and", ("has", "a"), ("not", ("has", "ab"))))
        for letter in "ba":
            wish = wish_ahead(wish, letter)
        self.assertEqual(wish, ("and", ("has", ""), ("not", ("has", ""))))

    def test_kinds_and_asked_again(self):
        wish = ("or", ("has", "ab"), ("not", ("has", "ba")))
        kinds = "tuple(str tuple(str str) tuple(str tuple(str str)))"
        for move in (lambda: wish_behind(wish, "a"), lambda: wish_ahead(wish, "a"), lambda: wish_turned(wish)):
            told = move()
            wish_behind(("has", "b"), "b")
            self.assertEqual(kinds_of(told), kinds)
            self.assertEqual(move(), told)
        self.assertEqual(wish, ("or", ("has", "ab"), ("not", ("has", "ba"))))

    def test_a_hundred_deep(self):
        wish = ("has", "ab")
        wanted = {"behind": ("has", "b"), "ahead": ("has", "a"), "turned": ("has", "ba")}
        for again in range(100):
            wish = ("not", wish)
            wanted = {name: ("not", other) for name, other in wanted.items()}
        self.assertEqual(wish_behind(wish, "a"), wanted["behind"])
        self.assertEqual(wish_ahead(wish, "b"), wanted["ahead"])
        self.assertEqual(wish_turned(wish), wanted["turned"])
