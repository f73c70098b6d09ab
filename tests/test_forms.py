import unittest
from itertools import product

from spreadwords.forms import form, forms
from spreadwords.parted import alike
from tests.plain import alike_to, in_order, texts_of, words_in_text

# letters, the greatest k, and how long all texts of these letters are searched through
KINDS = [("a", 3, 8), ("ab", 3, 8), ("abc", 2, 6)]
TWENTY = ["ab" * 10, "ba" * 10, "a" * 20, "a" * 10 + "b" * 10, "aabb" * 5, "abbbbbbbbbbbbbbbbbba",
          "abababababbbbaaaabab", "baaaaaaaaaaaaaaaaaab"]
TWENTY_OF_THREE = ["abc" * 6 + "ab", "cba" * 6 + "cb", "a" * 7 + "b" * 7 + "c" * 6, "ccccccbbbbbbbaaaaaaa",
                   "abbbbbbbbcccccccccca", "abcbacabcbbacacbabca"]


def all_kinds():
    for letters, most_k, longest in KINDS:
        for k in range(most_k + 1):
            yield letters, k, longest


def first_alike(letters, longest, k):
    """By the spread words: the first text, in order, that has just these."""
    first = {}
    for text in texts_of(letters, longest):
        first.setdefault(frozenset(words_in_text(text, k)), text)
    return first


class Form(unittest.TestCase):
    def test_against_a_search_through_all_texts_not_longer(self):
        for letters, k, longest in all_kinds():
            first = first_alike(letters, longest, k)
            for text in texts_of(letters, longest):
                self.assertEqual(form(text, k), first[frozenset(words_in_text(text, k))], (text, k))

    def test_to_nought(self):
        for text in ("", "a", "cba", "ab" * 10):
            self.assertEqual(form(text, 0), "")

    def test_the_text_without_letters(self):
        for k in range(4):
            self.assertEqual(form("", k), "")

    def test_some_by_hand(self):
        self.assertEqual(form("cbaabc", 1), "abc")
        self.assertEqual(form("ba", 1), "ab")
        self.assertEqual(form("ba", 2), "ba")
        self.assertEqual(form("aaaa", 3), "aaa")
        self.assertEqual(form("zyx", 1), "xyz")
        self.assertEqual(form("bab", 2), "bab")
        self.assertEqual(form("bbaabb", 2), "abab")

    def test_the_form_of_a_form(self):
        for letters, k, longest in all_kinds():
            for text in texts_of(letters, min(longest, 6)):
                told = form(text, k)
                self.assertEqual(form(told, k), told)

    def test_texts_of_twenty_letters(self):
        for texts, most_k in ((TWENTY, 3), (TWENTY_OF_THREE, 2)):
            for text, k in product(texts, range(most_k + 1)):
                letters = "".join(sorted(set(text)))
                told = form(text, k)
                self.assertEqual(len(text), 20)
                self.assertTrue(alike_to(told, text, k))
                self.assertEqual(told, next(one for one in forms(letters, k) if alike_to(one, text, k)))
                self.assertFalse([one for one in texts_of(letters, len(told)) if alike_to(one, text, k)
                                  and (len(one), one) < (len(told), told)])

    def test_equal_just_where_alike(self):
        for letters, k, longest in all_kinds():
            texts = list(texts_of(letters, {"a": 8, "ab": 5, "abc": 4}[letters]))
            told = {text: form(text, k) for text in texts}
            for one, other in product(texts, texts):
                self.assertEqual(told[one] == told[other], alike(one, other, k), (one, other, k))

    def test_equal_just_where_alike_of_twenty_letters(self):
        for texts, most_k in ((TWENTY, 3), (TWENTY_OF_THREE, 2)):
            for one, other in product(texts, texts):
                for k in range(most_k + 1):
                    self.assertEqual(form(one, k) == form(other, k), alike(one, other, k), (one, other, k))

    def test_kinds_and_asked_again(self):
        kept = form("bbaab", 2)
        self.assertIs(type(kept), str)
        form("abc", 1)
        self.assertEqual(form("bbaab", 2), kept)


class Forms(unittest.TestCase):
    def test_how_many(self):
        counts = {"a": [1, 2, 3, 4], "ab": [1, 4, 16, 68], "abc": [1, 8, 152]}
        for letters, k, longest in all_kinds():
            self.assertEqual(len(forms(letters, k)), counts[letters][k])

    def test_to_nought(self):
        for letters in ("a", "ab", "abc"):
            self.assertEqual(forms(letters, 0), [""])

    def test_to_one(self):
        self.assertEqual(forms("abc", 1), ["", "a", "b", "c", "ab", "ac", "bc", "abc"])

    def test_one_letter(self):
        for k in range(4):
            self.assertEqual(forms("b", k), ["b" * count for count in range(k + 1)])

    def test_in_order_each_once(self):
        for letters, k, longest in all_kinds():
            told = forms(letters, k)
            self.assertEqual(told, in_order(set(told)))

    def test_all_that_a_search_finds(self):
        for letters, k, longest in all_kinds():
            found = in_order(first_alike(letters, longest, k).values())
            self.assertEqual([text for text in forms(letters, k) if len(text) <= longest], found)

    def test_no_two_are_alike(self):
        for letters, k, longest in all_kinds():
            told = forms(letters, k)
            self.assertEqual(len({frozenset(words_in_text(text, k)) for text in told}), len(told))

    def test_a_letter_more_leads_to_one_of_them(self):
        # So, letter by letter, each text of these letters, however long, is alike to one of them.
        for letters, k, longest in all_kinds():
            told = forms(letters, k)
            words = {frozenset(words_in_text(text, k)) for text in told}
            for text, letter in product(told, letters):
                self.assertIn(frozenset(words_in_text(text + letter, k)), words)

    def test_each_is_its_own_form(self):
        for letters, k, longest in all_kinds():
            for text in forms(letters, k):
                self.assertEqual(form(text, k), text)

    def test_a_told_list_is_the_askers_own(self):
        told = forms("ab", 2)
        kept = list(told)
        told.append("zz")
        told[0] = "y"
        forms("bc", 2).clear()
        self.assertEqual(forms("ab", 2), kept)

    def test_kinds(self):
        self.assertIs(type(forms("ab", 1)), list)
        self.assertTrue(all(type(text) is str for text in forms("ab", 2)))
