import unittest

from spreadwords.errors import NoText, SpreadError
from spreadwords.wishtexts import read_wish, show_wish
from tests.plain import chance_wishes, kinds_of

TEXTS = {
    "always": ("always",),
    "never": ("never",),
    "has ab": ("has", "ab"),
    "has .": ("has", ""),
    "not never": ("not", ("never",)),
    "and has a has b": ("and", ("has", "a"), ("has", "b")),
    "or always has .": ("or", ("always",), ("has", "")),
    "or has a not and has ab always": ("or", ("has", "a"), ("not", ("and", ("has", "ab"), ("always",)))),
    "has not": ("has", "not"),
    "has has": ("has", "has"),
    "not has not": ("not", ("has", "not")),
    "and has and has or": ("and", ("has", "and"), ("has", "or")),
    "or has always has never": ("or", ("has", "always"), ("has", "never")),
    "and or never always not has xyz": ("and", ("or", ("never",), ("always",)), ("not", ("has", "xyz"))),
    "and never or always not has z": ("and", ("never",), ("or", ("always",), ("not", ("has", "z")))),
    "not not has abcdefghijklmnopqrstuvwxyz": ("not", ("not", ("has", "abcdefghijklmnopqrstuvwxyz"))),
}


class WrittenAndRead(unittest.TestCase):
    def test_each_sort(self):
        for text, wish in TEXTS.items():
            self.assertEqual(show_wish(wish), text)
            self.assertEqual(read_wish(text), wish)
            self.assertEqual(kinds_of(read_wish(text)), kinds_of(wish))
            self.assertIs(type(show_wish(wish)), str)

    def test_wishes_of_all_sorts(self):
        wishes = chance_wishes("abc", 5, 200, 51) + chance_wishes("dnot", 7, 60, 52)
        for wish in wishes:
            text = show_wish(wish)
            self.assertEqual(read_wish(text), wish)
            self.assertEqual(show_wish(read_wish(text)), text)
        self.assertEqual(len({show_wish(wish) for wish in wishes}), len(set(wishes)))
        self.assertGreater(max(len(show_wish(wish)) for wish in wishes), 150)

    def test_some_hundreds_deep(self):
        for count in (5, 100, 199, 500):
            text = "not " * count + "has ab"
            wish = read_wish(text)
            self.assertEqual(show_wish(wish), text)
            for number in range(count):
                self.assertEqual(wish[0], "not")
                wish = wish[1]
            self.assertEqual(wish, ("has", "ab"))

    def test_far_deeper_than_calls_may_go(self):
        wish = ("has", "")
        for number in range(20000):
            wish = ("or", ("never",), wish) if number else ("and", wish, ("always",))
        text = "or never " * 19999 + "and has . always"
        self.assertEqual(show_wish(wish), text)
        self.assertEqual(show_wish(read_wish(text)), text)

    def test_deep_to_the_left(self):
        text = "and " * 300 + "has a" + " has bc" * 300
        wish = read_wish(text)
        self.assertEqual(show_wish(wish), text)
        for number in range(300):
            self.assertEqual((wish[0], wish[2]), ("and", ("has", "bc")))
            wish = wish[1]
        self.assertEqual(wish, ("has", "a"))

    def test_many_parts(self):
        wishes = [("has", word) for word in ("a", "", "abc", "not")] * 256
        while len(wishes) > 1:
            wishes = [("or", wishes[n], ("not", wishes[n + 1])) for n in range(0, len(wishes), 2)]
        text = show_wish(wishes[0])
        self.assertEqual(read_wish(text), wishes[0])
        self.assertEqual(len(text.split(" ")), 1024 * 2 + 1023 * 2)

    def test_asked_again(self):
        text = "or has a not and has ab always"
        kept = read_wish(text)
        read_wish("not never")
        self.assertEqual(read_wish(text), kept)
        self.assertEqual(show_wish(kept), text)


class Refused(unittest.TestCase):
    def refused(self, text, at):
        with self.assertRaises(NoText) as caught:
            read_wish(text)
        self.assertEqual(caught.exception.at, at, text)
        self.assertIs(type(caught.exception.at), int)
        self.assertIsInstance(caught.exception, SpreadError)

    def test_without_signs_and_blanks_alone(self):
        self.refused("", 0)
        self.refused(" ", 0)
        self.refused("  ", 0)

    def test_blanks(self):
        self.refused(" always", 0)
        self.refused("always ", 1)
        self.refused("has a ", 2)
        self.refused("has  a", 1)
        self.refused("has ", 1)
        self.refused("not  always", 1)
        self.refused("and always  never", 2)
        self.refused("and  always never", 1)
        self.refused("and has a  has b", 3)
        self.refused("and has a has b ", 5)
        self.refused("and has a has ", 4)
        self.refused("not ", 1)

    def test_a_blank_too_many_at_each_place(self):
        for text in TEXTS:
            words = text.split(" ")
            for at in range(len(words) + 1):
                self.refused(" ".join(words[:at] + [""] + words[at:]), at)

    def test_a_text_that_ends_too_early(self):
        for text in TEXTS:
            words = text.split(" ")
            for count in range(1, len(words)):
                self.refused(" ".join(words[:count]), count)

    def test_a_word_left_out(self):
        self.refused("and has a", 3)
        self.refused("and always", 2)
        self.refused("or has a has", 4)
        self.refused("or not has b", 4)
        self.refused("has a not and has ab always", 2)
        self.refused("or has a and has ab always never", 7)
        self.refused("or has a not has ab always", 6)
        self.refused("or a not and has ab always", 1)
        self.refused("or has a not and ab always", 5)
        self.refused("or has a not and has ab", 7)
        # Without its word the next one stands behind has, whatever it says.
        self.assertEqual(read_wish("or has not and has ab always"),
                         ("or", ("has", "not"), ("and", ("has", "ab"), ("always",))))
        self.refused("or has a not and has always", 7)

    def test_a_word_too_many_behind(self):
        for text in TEXTS:
            count = len(text.split(" "))
            for more in ("always", "has a", "not", "x", ".", "and never never"):
                self.refused(text + " " + more, count)

    def test_the_word_of_has(self):
        for word in ("A", "aB", "Ab", "a1", "1", "0", "..", "a.", ".a", "...", "a-b", "ab,", "_", "~", "a;b", "'a'",
                     "NOT", "\n", "a\n", "\na", ".\n"):
            self.refused("has " + word, 1)
            self.refused("not has " + word, 2)
            self.refused("and has " + word + " always", 2)
            self.refused("and has a has " + word, 4)

    def test_unknown_words(self):
        for word in ("Always", "ALWAYS", "alway", "alwayss", "nev", "no", "nor", "has.", "hasa", "Has", "a", "ab", ".",
                     "0", "if", "true", "(", "not,", "xor", "andor", "ands", "always.", "always\n", "\nalways",
                     "never\nnever", "\n", "not\nnever", "nothas"):
            self.refused(word, 0)
            self.refused(word + " a", 0)
            self.refused("not " + word, 1)
            self.refused("or " + word + " never", 1)
            self.refused("or never " + word, 2)

    def test_line_feeds(self):
        self.refused("has a\n", 1)
        self.refused("has\na", 0)
        self.refused("and always\nnever", 1)
        self.refused("not\n always", 0)
        self.refused("has a\nhas b", 1)

    def test_the_first_word_that_cannot_stand_there(self):
        self.refused("and has A has B", 2)
        self.refused("and x y", 1)
        self.refused("and has a x ", 3)
        self.refused("always x Y", 1)

    def test_refused_far_behind_and_deep(self):
        self.refused("not " * 199 + "x", 199)
        self.refused("not " * 199, 199)
        self.refused("and " * 150 + "always " * 150, 300)
        self.refused("and " * 150 + "always " * 150 + "always x", 301)
        self.refused("and " * 150 + "always " * 149 + "never", 300)

    def test_refused_again(self):
        for again in range(2):
            self.refused("or has a", 3)
            self.assertEqual(read_wish("has a"), ("has", "a"))
