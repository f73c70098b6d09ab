import unittest

from spreadwords.cuts import ahead, behind
from spreadwords.joined import both, contrary, either
from spreadwords.least import least
from spreadwords.machines import look_machine, takes
from spreadwords.moved import wish_ahead, wish_behind
from spreadwords.parted import parting
from spreadwords.wished import machine_of, parting_wishes
from spreadwords.wishes import words_in
from tests.plain import chance_wishes, held, kinds_of, kinds_of_machine, texts_of

ALWAYS = ("always",)
NEVER = ("never",)
A = ("has", "a")
B = ("has", "b")
AB = ("has", "ab")


def small_wishes(letters, count, seed):
    """Wishes made by chance, of at most six letters in all their unlike words; most have two such words or more."""
    wishes = [wish for wish in chance_wishes(letters, 4, 60 * count, seed)
              if sum(len(word) for word in words_in(wish)) <= 6 and str(wish).count("(") <= 10]
    return wishes[:count // 4] + [wish for wish in wishes if len(words_in(wish)) > 1][:count]


def first_parting_text(letters, one, other, most):
    for text in texts_of(letters, most):
        if held(one, text) != held(other, text):
            return text
    return None


class MachineOf(unittest.TestCase):
    def look_at(self, letters, wish, most):
        machine = machine_of(letters, wish)
        self.assertEqual(machine[0], letters)
        self.assertEqual(least(machine), machine)
        self.assertEqual(kinds_of(machine), kinds_of_machine(len(letters), len(machine[2]), len(machine[3])))
        for text in texts_of(letters, most):
            self.assertIs(takes(machine, text), held(wish, text), (letters, wish, text))
        return machine

    def test_by_hand(self):
        self.assertEqual(machine_of("ab", ALWAYS), ("ab", 0, (0,), ((0, 0),)))
        self.assertEqual(machine_of("ab", NEVER), ("ab", 0, (), ((0, 0),)))
        self.assertEqual(machine_of("ab", ("has", "")), ("ab", 0, (0,), ((0, 0),)))
        self.assertEqual(machine_of("ab", AB), ("ab", 0, (2,), ((1, 0), (1, 2), (2, 2))))
        self.assertEqual(machine_of("ab", ("not", A)), ("ab", 0, (0,), ((1, 0), (1, 1))))
        self.assertEqual(machine_of("a", A), ("a", 0, (1,), ((1,), (1,))))
        self.assertEqual(machine_of("abc", A), ("abc", 0, (1,), ((1, 0, 0), (1, 1, 1))))
        self.assertEqual(machine_of("bmz", ("has", "z")), ("bmz", 0, (1,), ((0, 0, 1), (1, 1, 1))))
        self.assertEqual(machine_of("ab", ("and", A, B)), ("ab", 0, (3,), ((1, 2), (1, 3), (3, 2), (3, 3))))
        self.assertEqual(machine_of("ab", ("or", A, B)), ("ab", 0, (1,), ((1, 1), (1, 1))))

    def test_always_and_never_by_each_letters(self):
        for letters in ("a", "z", "ab", "abc", "cde"):
            stay = ((0,) * len(letters),)
            self.assertEqual(self.look_at(letters, ALWAYS, 2), (letters, 0, (0,), stay))
            self.assertEqual(self.look_at(letters, NEVER, 2), (letters, 0, (), stay))

    def test_each_word_of_none_to_three_letters(self):
        for letters, most in (("a", 6), ("ab", 6), ("abc", 5)):
            for word in texts_of(letters, 3):
                machine = self.look_at(letters, ("has", word), most)
                self.assertEqual(len(machine[3]), len(word) + 1)
                self.look_at(letters, ("not", ("has", word)), 4)

    def test_by_letters_of_just_the_wish_and_of_more(self):
        wishes = (A, AB, ("and", A, ("not", ("has", "aa"))), ("or", ("has", "bab"), ("not", AB)))
        for wish in wishes:
            used = "".join(sorted({letter for word in words_in(wish) for letter in word}))
            for letters in {used, "ab", "abc", "abz"}:
                self.look_at(letters, wish, 5)

    def test_wishes_of_all_sorts(self):
        sizes = {}
        for letters, most in (("a", 8), ("ab", 7), ("abc", 5)):
            for wish in small_wishes(letters, 60, 61):
                machine = self.look_at(letters, wish, most)
                sizes[len(machine[3])] = True
        self.assertGreater(len(sizes), 6)
        self.assertGreater(max(sizes), 8)

    def test_what_is_done_to_wishes_is_done_to_their_machines(self):
        for letters in ("a", "ab", "abc"):
            wishes = [wish for wish in small_wishes(letters, 40, 62)]
            for one, other in zip(wishes, wishes[1:]):
                first = machine_of(letters, one)
                second = machine_of(letters, other)
                self.assertEqual(machine_of(letters, ("not", one)), contrary(first))
                self.assertEqual(machine_of(letters, ("and", one, other)), both(first, second))
                self.assertEqual(machine_of(letters, ("or", one, other)), either(first, second))
                for letter in letters:
                    self.assertEqual(machine_of(letters, wish_behind(one, letter)), behind(first, letter))
                    self.assertEqual(machine_of(letters, wish_ahead(one, letter)), ahead(first, letter))

    def test_told_words_of_more_letters(self):
        word = parting("ab" * 12, "ab" * 11)[1]
        machine = machine_of("ab", ("has", word))
        self.assertEqual(len(machine[3]), len(word) + 1)
        self.assertIs(takes(machine, "ab" * 12), True)
        self.assertIs(takes(machine, "ab" * 11), False)

    def test_larger_wishes(self):
        # Some of all words of three letters, but none of one: as told wishes have many words.
        wish = NEVER
        for number, word in enumerate(texts_of("ab", 3)):
            wish = ("or", ("and", ("has", word), ("not", ("has", word[::-1] + "ab"[number % 2:]))), wish)
        self.look_at("ab", wish, 8)

    def test_let_by(self):
        for wish in (ALWAYS, NEVER, AB, ("not", AB), ("and", A, B), ("has", "aba")):
            self.assertIs(look_machine(machine_of("ab", wish)), True)

    def test_asked_again(self):
        wish = ("or", AB, ("not", A))
        kept = machine_of("ab", wish)
        machine_of("abc", wish)
        machine_of("ab", B)
        self.assertEqual(machine_of("ab", wish), kept)
        self.assertEqual(wish, ("or", ("has", "ab"), ("not", ("has", "a"))))


class PartingWishes(unittest.TestCase):
    def same(self, letters, one, other):
        self.assertIsNone(parting_wishes(letters, one, other), (one, other))
        self.assertIsNone(parting_wishes(letters, other, one), (one, other))

    def test_the_same_put_otherwise(self):
        for one in small_wishes("ab", 12, 63):
            self.same("ab", one, one)
            self.same("ab", one, ("not", ("not", one)))
            self.same("ab", one, ("and", ALWAYS, one))
            self.same("ab", one, ("or", one, NEVER))
            self.same("ab", ("and", one, ("not", one)), NEVER)
            self.same("ab", ("or", one, ("not", one)), ("has", ""))
        self.same("ab", ("not", ("and", A, B)), ("or", ("not", A), ("not", B)))
        self.same("ab", ("and", A, AB), AB)
        self.same("ab", ("or", AB, ("has", "ba")), ("and", A, B))
        self.same("abc", ("not", ("has", "")), NEVER)

    def test_by_one_letter_more(self):
        some = ("or", A, B)
        self.same("ab", ("and", some, AB), AB)
        # Of texts of a alone what has a letter has an a.
        self.same("a", ("or", A, ("not", A)), ALWAYS)
        none_of_b = ("and", ("not", B), ("has", "a"))
        self.assertEqual(parting_wishes("ab", none_of_b, A), "ab")
        one = ("not", some)
        other = ("not", ("or", some, ("has", "c")))
        self.assertEqual(parting_wishes("abc", one, other), "c")
        both_ways = ("or", AB, ("or", ("has", "ba"), ("or", ("not", A), ("not", B))))
        self.same("ab", both_ways, ALWAYS)
        self.same("abc", both_ways, ALWAYS)

    def test_several_letters(self):
        self.assertEqual(parting_wishes("ab", AB, ("has", "ba")), "ab")
        self.assertEqual(parting_wishes("ab", ("has", "aab"), ("has", "aa")), "aa")
        self.assertEqual(parting_wishes("ab", ("and", AB, ("has", "ba")), NEVER), "aba")
        self.assertEqual(parting_wishes("ab", ("and", ("has", "abb"), ("has", "baa")), NEVER), "abaab")
        self.assertEqual(parting_wishes("ab", ("and", ("has", "aba"), ("has", "bab")), NEVER), "abab")
        self.assertEqual(parting_wishes("ab", A, ALWAYS), "")

    def test_against_a_search_either_way_about(self):
        found = {}
        for letters, most in (("a", 9), ("ab", 9), ("abc", 6)):
            wishes = small_wishes(letters, 40, 64)
            for one, other in list(zip(wishes, wishes[1:])) + list(zip(wishes, wishes[7:])):
                told = parting_wishes(letters, one, other)
                self.assertEqual(parting_wishes(letters, other, one), told)
                wanted = first_parting_text(letters, one, other, most)
                if wanted is None and told is not None:
                    self.assertGreater(len(told), most)
                    self.assertNotEqual(held(one, told), held(other, told))
                else:
                    self.assertEqual(told, wanted)
                    self.assertIn(type(told), (str, type(None)))
                    found[None if told is None else len(told)] = True
        for length in (None, 0, 1, 2):
            self.assertIn(length, found)

    def test_first_texts_of_three_to_six_letters(self):
        for one, other in ((("has", "aab"), ("has", "aba")), (("and", ("has", "aab"), ("has", "bab")), NEVER),
                           (("has", "abc"), ("and", ("has", "abc"), ("has", "cba"))),
                           (("and", ("has", "ba"), ("has", "cac")), ("and", ("has", "cac"), B))):
            letters = "abc" if ("c" in str((one, other)).replace("has", "")) else "ab"
            wanted = first_parting_text(letters, one, other, 7)
            self.assertGreaterEqual(len(wanted), 3)
            self.assertEqual(parting_wishes(letters, one, other), wanted)
            self.assertEqual(parting_wishes(letters, other, one), wanted)

    def test_asked_again(self):
        kept = parting_wishes("ab", AB, ("has", "bb"))
        parting_wishes("ab", A, B)
        self.assertEqual(parting_wishes("ab", AB, ("has", "bb")), kept)
