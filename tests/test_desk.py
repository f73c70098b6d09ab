import re
import unittest
from random import Random

from spreadwords.apart import told_apart
from spreadwords.desk import Desk
from spreadwords.errors import NoFit, NoMachine, NoName, NoRow, NoText, SpreadError
from spreadwords.forms import form
from spreadwords.joined import both, contrary, either
from spreadwords.least import least, parting_text
from spreadwords.lengths import least_length
from spreadwords.machines import look_machine
from spreadwords.machinetexts import read_machine, show_machine
from spreadwords.papers import paper_of
from spreadwords.parted import parting
from spreadwords.wished import machine_of
from spreadwords.wishtexts import read_wish, show_wish
from tests.plain import (chance_machines, chance_wishes, depth_in, in_order, parts_in, rising_machines, taken,
                         texts_of)

# Texts with an odd number of a; rooms 2 and 3 say the same as 0 and 1.
ODD = "letters ab ; begin 2 ; ends 1 3 ; room 1 0 ; room 0 1 ; room 3 2 ; room 2 3"
LEAST_ODD = "letters ab ; begin 0 ; ends 1 ; room 1 0 ; room 0 1"
BEGINS_WITH_A = "letters ab ; begin 0 ; ends 1 ; room 1 2 ; room 1 1 ; room 2 2"
NOTHING = "letters ab ; begin 0 ; ends ; room 0 0"
NAMES = ("odd", "first", "none", "some", "three", "tiny", "others")


def in_one_row(machine):
    return show_machine(machine).replace("\n", " ; ")


def filled_desk():
    """Keeps odd, first, none, some (of letters ab), three, others (of abc), tiny (of a)."""
    desk = Desk()
    for row in ("machine odd " + ODD, "machine first " + BEGINS_WITH_A, "machine none " + NOTHING,
                "wish some ab has ab", "wish three abc or has ca has bb", "wish tiny a has aa", "not others three"):
        desk.say(row)
    return desk


class Rows(unittest.TestCase):
    def test_machine_and_show(self):
        desk = Desk()
        self.assertEqual(desk.say("machine odd " + ODD), "kept")
        self.assertEqual(desk.say("show odd"), LEAST_ODD)
        self.assertEqual(desk.say("machine n " + NOTHING), "kept")
        self.assertEqual(desk.say("show n"), NOTHING)
        self.assertEqual(desk.say("machine abcdef letters xz ; begin 1 ; ends 1 ; room 0 0 ; room 1 1"), "kept")
        self.assertEqual(desk.say("show abcdef"), "letters xz ; begin 0 ; ends 0 ; room 0 0")

    def test_the_least_machine_is_kept(self):
        desk = Desk()
        for letters in ("a", "ab", "abc"):
            for machine in chance_machines(letters, 6, 10, 110):
                self.assertEqual(desk.say("machine m " + in_one_row(machine)), "kept")
                self.assertEqual(desk.say("show m"), in_one_row(least(machine)))

    def test_what_is_shown_is_read_again(self):
        desk = Desk()
        for machine in chance_machines("ab", 5, 10, 111):
            desk.say("machine m " + in_one_row(machine))
            shown = desk.say("show m")
            self.assertEqual(desk.say("machine again " + shown), "kept")
            self.assertEqual(desk.say("show again"), shown)
            self.assertEqual(desk.say("same m again"), "same")

    def test_wish(self):
        desk = Desk()
        self.assertEqual(desk.say("wish w ab has ab"), "kept")
        self.assertEqual(desk.say("show w"), "letters ab ; begin 0 ; ends 2 ; room 1 0 ; room 1 2 ; room 2 2")
        self.assertEqual(desk.say("wish w abc always"), "kept")
        self.assertEqual(desk.say("show w"), "letters abc ; begin 0 ; ends 0 ; room 0 0 0")
        self.assertEqual(desk.say("wish w b never"), "kept")
        self.assertEqual(desk.say("show w"), "letters b ; begin 0 ; ends ; room 0")
        self.assertEqual(desk.say("wish w b not has ."), "kept")
        self.assertEqual(desk.say("show w"), "letters b ; begin 0 ; ends ; room 0")

    def test_wishes_against_the_functions(self):
        desk = Desk()
        for letters in ("a", "ab", "abc"):
            for wish in chance_wishes(letters, 2, 30, 112):
                words = {part[1] for part in parts_in(wish) if part[0] == "has"}
                if len("".join(words)) <= 6:
                    self.assertEqual(desk.say(f"wish w {letters} {show_wish(wish)}"), "kept")
                    self.assertEqual(desk.say("show w"), in_one_row(machine_of(letters, wish)))

    def test_words_of_the_desk_as_names_letters_and_words(self):
        desk = Desk()
        self.assertEqual(desk.say("wish wish not has not"), "kept")
        self.assertEqual(desk.say("wish not or not has or"), "kept")
        self.assertEqual(desk.say("not show not"), "kept")
        self.assertEqual(desk.say("takes wish not"), "yes")
        self.assertEqual(desk.say("takes wish ton"), "no")
        self.assertEqual(desk.say("same show show"), "same")
        self.assertEqual(desk.say("takes show or"), "yes")
        self.assertEqual(desk.say("parts aaa sas"), "0 s")

    def test_not_both_either(self):
        desk = filled_desk()
        odd, first, some = [read_machine(desk.say("show " + name).replace(" ; ", "\n"))
                            for name in ("odd", "first", "some")]
        for row, machine in (("not n odd", contrary(odd)), ("not n some", contrary(some)),
                             ("both n odd first", both(odd, first)), ("both n some odd", both(some, odd)),
                             ("either n odd first", either(odd, first)), ("either n some first", either(some, first)),
                             ("both n odd odd", odd), ("either n odd odd", odd)):
            self.assertEqual(desk.say(row), "kept")
            self.assertEqual(desk.say("show n"), in_one_row(machine))

    def test_the_new_name_among_the_old_ones(self):
        for row, name, made in (("not odd odd", "odd", lambda odd, some: contrary(odd)),
                                ("both odd odd some", "odd", both), ("both some odd some", "some", both),
                                ("either odd odd some", "odd", either), ("either some odd some", "some", either),
                                ("both odd odd odd", "odd", lambda odd, some: odd)):
            desk = filled_desk()
            odd, some = [read_machine(desk.say("show " + kept).replace(" ; ", "\n")) for kept in ("odd", "some")]
            shown = {kept: desk.say("show " + kept) for kept in NAMES}
            self.assertEqual(desk.say(row), "kept")
            shown[name] = in_one_row(made(odd, some))
            self.assertEqual({kept: desk.say("show " + kept) for kept in NAMES}, shown)

    def test_kept_anew(self):
        desk = Desk()
        desk.say("wish n ab has ab")
        desk.say("not m n")
        desk.say("machine n letters c ; begin 0 ; ends 0 ; room 0")
        self.assertEqual(desk.say("show n"), "letters c ; begin 0 ; ends 0 ; room 0")
        self.assertEqual(desk.say("takes m ab"), "no")
        self.assertEqual(desk.say("takes m ba"), "yes")
        desk.say("wish n ab has b")
        self.assertEqual(desk.say("takes n ab"), "yes")
        self.assertEqual(desk.say("takes n a"), "no")

    def test_takes(self):
        desk = filled_desk()
        for name in ("odd", "first", "none", "some"):
            machine = read_machine(desk.say("show " + name).replace(" ; ", "\n"))
            for text in texts_of("ab", 4):
                self.assertEqual(desk.say(f"takes {name} {text or '.'}"), "yes" if taken(machine, text) else "no")
        self.assertEqual(desk.say("takes odd " + "a" * 29), "yes")
        self.assertEqual(desk.say("takes odd " + "a" * 30), "no")
        desk.say("not odd odd")
        self.assertEqual(desk.say("takes odd ."), "yes")

    def test_sort(self):
        desk = filled_desk()
        for name, sort in (("odd", "other"), ("first", "other"), ("none", "spread"), ("some", "spread"),
                           ("three", "spread"), ("tiny", "spread"), ("others", "spread")):
            self.assertEqual(desk.say("sort " + name), sort)
        for machine in list(rising_machines("ab", 5, 20, 113)) + list(chance_machines("abc", 3, 10, 114)):
            desk.say("machine m " + in_one_row(machine))
            self.assertEqual(desk.say("sort m") == "spread", paper_of(machine)[0] == "spread")
            self.assertIn(desk.say("sort m"), ("spread", "other"))

    def test_length(self):
        desk = filled_desk()
        for name, length in (("odd", "none"), ("first", "none"), ("none", "0"), ("some", "2"), ("three", "2"),
                             ("tiny", "2")):
            self.assertEqual(desk.say("length " + name), length)
        desk.say("wish n ab or has aba has b")
        self.assertEqual(desk.say("length n"), "1")
        desk.say("wish n ab or has aba has bbb")
        self.assertEqual(desk.say("length n"), "3")
        desk.say("wish n abc has aba")
        self.assertEqual(desk.say("length n"), "none")

    def test_same(self):
        desk = filled_desk()
        self.assertEqual(desk.say("same odd odd"), "same")
        self.assertEqual(desk.say("same odd first"), "aa")
        self.assertEqual(desk.say("same first odd"), "aa")
        self.assertEqual(desk.say("same odd none"), "a")
        self.assertEqual(desk.say("same some none"), "ab")
        desk.say("not even odd")
        self.assertEqual(desk.say("same odd even"), ".")
        self.assertEqual(desk.say("same even odd"), ".")
        desk.say("not again even")
        self.assertEqual(desk.say("same odd again"), "same")
        self.assertEqual(desk.say("same three others"), ".")

    def test_apart(self):
        desk = filled_desk()
        desk.say("not rest some")
        for k, told in ((0, "alike"), (1, "alike"), (2, "wish"), (3, "wish")):
            self.assertEqual(desk.say(f"apart {k} some rest"), told)
            self.assertEqual(desk.say(f"apart {k} rest some"), told)
            self.assertEqual(desk.say(f"apart {k} odd first"), "alike")
            self.assertEqual(desk.say(f"apart {k} odd none"), "wish")
        for k, told in ((0, "alike"), (1, "alike"), (2, "wish")):
            self.assertEqual(desk.say(f"apart {k} three others"), told)
        for k in range(4):
            self.assertEqual(desk.say(f"apart {k} tiny tiny"), "alike")

    def test_parts(self):
        desk = Desk()
        self.assertEqual(desk.say("parts abab abba"), "2 aab")
        self.assertEqual(desk.say("parts abab abab"), "same")
        self.assertEqual(desk.say("parts . ."), "same")
        self.assertEqual(desk.say("parts . b"), "0 b")
        self.assertEqual(desk.say("parts b ."), "0 b")
        self.assertEqual(desk.say("parts abc acb"), "1 bc")
        self.assertEqual(desk.say("parts " + "a" * 30 + " " + "a" * 29), "29 " + "a" * 30)
        # In order: shorter words first, of one length as texts.
        self.assertEqual(desk.say("parts ab ba").split(" ")[1], in_order({"ab", "ba"})[0])

    def test_form(self):
        desk = Desk()
        self.assertEqual(desk.say("form 2 bbaabb"), "abab")
        self.assertEqual(desk.say("form 0 abba"), ".")
        self.assertEqual(desk.say("form 0 ."), ".")
        self.assertEqual(desk.say("form 3 ."), ".")
        self.assertEqual(desk.say("form 1 cbabc"), "abc")
        self.assertEqual(desk.say("form 2 " + "cab" * 6 + "ca"), form("cab" * 6 + "ca", 2))
        self.assertEqual(desk.say("form 3 " + "z" * 20), "zzz")
        self.assertEqual(desk.say("form 3 abbab"), form("abbab", 3))
        self.assertEqual(desk.say("form 2 xyz"), "xyz")

    def test_asked_again_whatever_was_asked_between(self):
        rows = ("show odd", "takes odd a", "sort first", "length some", "same odd first", "apart 2 odd first",
                "parts ab ba", "form 2 abba", "show three")
        desk = filled_desk()
        once = [desk.say(row) for row in rows]
        desk.say("not more odd")
        desk.say("either more more some")
        self.assertEqual([desk.say(row) for row in reversed(rows)], once[::-1])
        for told in once:
            self.assertIs(type(told), str)

    def test_two_desks(self):
        one, other = Desk(), Desk()
        one.say("wish n ab has a")
        with self.assertRaises(NoName):
            other.say("show n")
        other.say("wish n ab has b")
        self.assertEqual(one.say("takes n a"), "yes")
        self.assertEqual(other.say("takes n a"), "no")
        one.say("not n n")
        self.assertEqual(other.say("takes n b"), "yes")
        with self.assertRaises(NoName):
            Desk().say("show n")


class Refusals(unittest.TestCase):
    def setUp(self):
        self.desk = filled_desk()
        self.shown = {name: self.desk.say("show " + name) for name in NAMES}

    def refused(self, kind, row, **fields):
        with self.assertRaises(kind, msg=row) as caught:
            self.desk.say(row)
        self.assertIs(type(caught.exception), kind, row)
        self.assertIsInstance(caught.exception, SpreadError)
        for name, value in fields.items():
            self.assertEqual(getattr(caught.exception, name), value, row)
        self.assertEqual({name: self.desk.say("show " + name) for name in NAMES}, self.shown, row)

    def no_rows(self, *rows):
        for row in rows:
            self.refused(NoRow, row)

    def test_other_first_words(self):
        self.no_rows("", " ", "no", "keep n odd", "Show odd", "SHOW odd", "Machine n " + NOTHING, "MACHINE n " + NOTHING,
                     "showodd", "shows odd", "sho odd", "odd", ".", "wishes n ab always", "and n odd some",
                     "or n odd some", "has ab", "letters ab", "Takes odd a", "FORM 1 a", "Parts a b")

    def test_too_few_and_too_many_words(self):
        self.no_rows("machine", "machine n", "wish", "wish n", "wish n ab", "not", "not n", "not n odd some", "both",
                     "both n", "both n odd", "both n odd some first", "either", "either n", "either n odd",
                     "either n odd some odd", "show", "show odd some", "takes", "takes odd", "takes odd a b", "sort",
                     "sort odd odd", "length", "length odd 2", "same", "same odd", "same odd odd odd", "apart",
                     "apart 2", "apart 2 odd", "apart odd some", "apart 2 odd some first", "parts", "parts a",
                     "parts a b c", "form", "form 2", "form a", "form 2 ab ab", "form 2 3 ab")

    def test_blanks(self):
        self.no_rows(" show odd", "show  odd", "show odd ", "show ", "takes odd ", "takes  odd a", "takes odd  a",
                     "takes odd a ", " takes odd a", "not n  odd", "not  n odd", "not n odd ", "both n odd  some",
                     "both n odd some ", "parts a  b", "parts  a", "parts a ", "parts  ", "form  ab", "form 2 ",
                     "form  2 ab", "apart  odd some", "apart 2 odd ", "same odd ", "same  odd", "sort ", "length ",
                     "machine  n " + NOTHING, " machine n " + NOTHING, "wish  n ab always", "wish n  ab always",
                     " wish n ab always", "machine  " + NOTHING, "wish n  always", "show\todd")

    def test_a_line_feed(self):
        self.no_rows("show odd\n", "\nshow odd", "show\nodd", "takes odd a\n", "takes odd\na", "parts a b\n", "\n",
                     "machine n " + NOTHING + "\n", "machine n " + NOTHING.replace(" ; ", "\n"),
                     "machine n \n" + NOTHING, "wish n ab always\n", "wish n ab has\na", "wish n ab\nalways",
                     "form 1 a\n", "not n\nodd", "machine\nn " + NOTHING, "machine n x\ny")

    def test_names(self):
        bad = ("", "abcdefg", "Odd", "oDD", "o1", "1", "a_b", "a-b", ".", "a;", ";", "O")
        for name in bad:
            self.no_rows(f"machine {name} {NOTHING}", f"wish {name} ab always", f"not {name} odd", f"not n {name}",
                         f"both {name} odd odd", f"both n {name} odd", f"both n odd {name}", f"either {name} odd odd",
                         f"either n {name} odd", f"either n odd {name}", f"show {name}", f"takes {name} a",
                         f"sort {name}", f"length {name}", f"same {name} odd", f"same odd {name}",
                         f"apart 1 {name} odd", f"apart 1 odd {name}")
        for name in ("a", "z", "abcdef", "zzzzzz"):
            self.assertEqual(self.desk.say(f"not {name} odd"), "kept")
            self.assertEqual(self.desk.say("same odd " + name), ".")

    def test_words(self):
        for word in ("A", "aB", "a1", "1", "..", "a.", ".a", "-", "a" * 31, "ab" * 16, ";"):
            self.no_rows("takes odd " + word, "parts a " + word, f"parts {word} a", "form 1 " + word)
        self.assertEqual(self.desk.say("parts a " + "a" * 30), "1 aa")
        self.no_rows("takes odd " + "a" * 31, "parts . " + "a" * 31, "parts " + "a" * 31 + " .")

    def test_words_of_twenty_letters_for_form(self):
        self.assertEqual(self.desk.say("form 1 " + "ba" * 10), "ab")
        self.no_rows("form 1 " + "ba" * 10 + "a", "form 0 " + "a" * 21, "form 1 " + "a" * 30)

    def test_letters(self):
        for letters in ("", "ba", "aa", "abcd", "aab", "A", "1", ".", "aB", "acb", "xyzz"):
            self.no_rows(f"wish n {letters} always")
        for letters in ("a", "az", "xyz"):
            self.assertEqual(self.desk.say(f"wish n {letters} always"), "kept")

    def test_four_unlike_letters(self):
        self.no_rows("parts ab cd", "parts abc d", "parts abcd .", "parts . abcd", "parts abcd abcd", "form 0 abcd",
                     "form 1 abcd", "form 2 zyxw")
        self.assertEqual(self.desk.say("parts ab bc"), "0 a")
        self.assertEqual(self.desk.say("parts abc ."), "0 a")
        self.assertEqual(self.desk.say("form 1 abc"), "abc")

    def test_figures(self):
        for k in ("10", "00", "01", "-1", "+1", "x", "", ".", "1.", "a", "O", "02"):
            self.no_rows(f"form {k} ab", f"apart {k} odd some")

    def test_figures_that_are_too_great(self):
        self.assertEqual(self.desk.say("form 3 ab"), "ab")
        self.assertEqual(self.desk.say("form 2 abc"), "abc")
        for k in range(4, 10):
            self.no_rows(f"form {k} ab", f"form {k} a", f"form {k} .", f"form {k} abc", f"apart {k} odd some",
                         f"apart {k} three others", f"apart {k} tiny tiny")
        self.no_rows("form 3 abc", "form 3 aabbc")
        self.refused(NoRow, "apart 3 three others")
        self.assertEqual(self.desk.say("apart 2 three others"), "wish")
        self.assertEqual(self.desk.say("apart 3 tiny tiny"), "alike")

    def test_names_that_are_not_kept(self):
        for row in ("show x", "takes x a", "sort x", "length x", "same x odd", "same odd x", "same x y", "same x x",
                    "apart 1 x odd", "apart 1 odd x", "apart 1 x y", "not n x", "not x x", "both n x odd", "both n odd x",
                    "both n x y", "both y x y", "either n x odd", "either n odd x", "either n x y", "not odd x",
                    "both odd odd x", "either odd x odd"):
            self.refused(NoName, row, name="x")
        for row in ("same y x", "both n y x", "both x y x", "either n y x", "apart 1 y x", "not x y"):
            self.refused(NoName, row, name="y")
        # What is made anew isn't there yet.
        self.refused(NoName, "both n odd n", name="n")
        self.assertIs(type(self.desk.say("show odd")), str)

    def test_the_text_of_no_machine(self):
        for text, at in (("", 0), (" ", 0), ("x", 0), ("letters ba ; begin 0 ; ends ; room 0 0", 0), (" " + NOTHING, 0),
                         ("; " + NOTHING, 0), (NOTHING + " ", 3), (NOTHING + " ; ", 4), (NOTHING + " ;", 3),
                         ("letters ab", 1), ("letters ab ; begin 0", 2), ("letters ab ; begin 0 ; ends", 3),
                         ("letters ab ; begin 00 ; ends ; room 0 0", 1), ("letters ab ; begin 0 ; ends 01 ; room 0 0", 2),
                         ("letters ab ; begin 0 ; ends ; room 0", 3), ("letters ab ; begin 0 ; ends ; room 0 0 ; x", 4),
                         ("letters ab;begin 0;ends;room 0 0", 0), ("letters ab ;  ; begin 0 ; ends ; room 0 0", 1),
                         ("letters ab ; begin 0 ;ends ; room 0 0", 1), ("letters ab ; begin 1000 ; ends ; room 0 0", 1)):
            self.refused(NoText, "machine n " + text, at=at)
            self.refused(NoText, "machine odd " + text, at=at)
            self.refused(NoName, "show n", name="n")

    def test_a_machine_that_is_not_let_by(self):
        seven = in_one_row(("a", 0, (), ((0,),) * 7))
        for text, word, at in (("letters abcd ; begin 0 ; ends ; room 0 0 0 0", "letters", 4), (seven, "rooms", 7),
                               ("letters ab ; begin 1 ; ends ; room 0 0", "begin", 0),
                               ("letters ab ; begin 0 ; ends 1 ; room 0 0", "ends", 1),
                               ("letters ab ; begin 0 ; ends 0 0 ; room 0 0", "ends", 2),
                               ("letters ab ; begin 0 ; ends 1 0 ; room 0 0 ; room 1 1", "ends", 2),
                               ("letters ab ; begin 0 ; ends ; room 0 0 ; room 1 2", "steps", 1)):
            self.refused(NoMachine, "machine n " + text, word=word, at=at)
            self.refused(NoMachine, "machine odd " + text, word=word, at=at)

    def test_a_shown_machine_of_too_many_rooms(self):
        self.desk.say("wish n ab has aab")
        self.desk.say("wish m ab has bba")
        self.desk.say("both n n m")
        shown = self.desk.say("show n")
        rooms = shown.count("room")
        self.assertGreater(rooms, 6)
        self.refused(NoMachine, "machine n " + shown, word="rooms", at=rooms)
        self.assertEqual(self.desk.say("show n"), shown)

    def test_the_text_of_no_wish(self):
        for text, at in (("", 0), (" ", 0), ("x", 0), ("has", 1), ("has ", 1), ("has A", 1), ("not", 1), ("and has a", 3),
                         ("or always", 2), ("always ", 1), ("always always", 1), ("has a ", 2), (" has a", 0),
                         ("has  a", 1), ("not  always", 1), ("Always", 0), ("has ..", 1), ("has ;", 1)):
            self.refused(NoText, "wish n ab " + text, at=at)
            self.refused(NoText, "wish odd ab " + text, at=at)
            self.refused(NoName, "show n", name="n")

    def test_a_wish_beyond_the_bounds(self):
        nine = "and and has a has b and and has a has b has ab"
        self.assertEqual(len(parts_in(read_wish(nine))), 9)
        for text in ("not " + nine, "not not not not not always", "has abb", "and has aaa has bbb",
                     "or has ab or has ba has aa", "and has aab or has aab has abb"):
            self.assertEqual(self.desk.say("wish n ab " + text), "kept")
            self.assertEqual(self.desk.say("show n"), in_one_row(machine_of("ab", read_wish(text))))
        shown = self.desk.say("show n")
        self.no_rows("wish n ab not not " + nine, "wish n ab and always and always " + nine,
                     "wish n ab not not not not not not always", "wish n ab or never not not not not not has a",
                     "wish n ab has abab", "wish n ab not has aaaa", "wish n ab and has aaa and has bbb has a",
                     "wish n ab or has ab or has ba or has aa has b", "wish n ab has " + "a" * 31,
                     "wish n ab " + "not " * 150 + "always")
        self.assertEqual(self.desk.say("show n"), shown)

    def test_just_the_parts_and_just_the_depth(self):
        # Eleven parts, only three deep; and only seven parts, six deep.
        wide = "and and and always always always and and always always always"
        self.assertEqual((len(parts_in(read_wish(wide))), depth_in(read_wish(wide))), (11, 3))
        self.no_rows("wish n ab " + wide, "wish n ab not not not not not not has a")
        for text in ("not and and and always always always and always always", "not not not not not has a"):
            self.assertEqual(self.desk.say("wish n ab " + text), "kept")

    def test_a_wish_with_a_letter_that_lacks(self):
        self.no_rows("wish n ab has c", "wish n a or has a has ab", "wish odd b not has a", "wish n xyz has a",
                     "wish n ab and never has z")

    def test_a_word_of_takes_with_a_letter_that_lacks(self):
        self.no_rows("takes odd c", "takes odd abc", "takes tiny b", "takes tiny aab", "takes three d",
                     "takes odd wxyz", "takes three abcdefgh")

    def test_machines_of_other_letters(self):
        for row in ("same odd three", "same tiny odd", "both n odd three", "both odd odd three", "both n tiny odd",
                    "either n odd three", "either tiny three tiny", "apart 1 odd three", "apart 0 tiny odd"):
            self.refused(NoFit, row)
        self.desk.say("wish other ac has a")
        self.refused(NoFit, "same odd other")
        self.refused(NoFit, "apart 2 other odd")

    def test_no_row_ahead_of_no_name(self):
        self.no_rows("takes x A", "takes x " + "a" * 31, "apart 4 x y", "apart a x odd", "apart 1 x Y", "same x Y",
                     "both N x y", "not N x", "either n x Y", "same x", "show x\n", "takes x ")

    def test_no_row_ahead_of_the_texts_refusals(self):
        self.no_rows("machine N x", "machine abcdefg x", "wish N ab x", "wish n ba x", "wish n abcd has",
                     "machine  ", "machine N letters abcd ; begin 0 ; ends ; room 0 0 0 0", "machine n x\n")

    def test_no_text_ahead_of_no_machine(self):
        self.refused(NoText, "machine n letters abcd ; begin 9 ; ends ; room 0", at=3)
        self.refused(NoText, "machine n letters ab ; begin 9 ; ends 8 ; room 7 7 7", at=3)
        self.refused(NoText, "machine n letters ab ; begin 9 ; ends 8", at=3)

    def test_no_text_ahead_of_no_row(self):
        self.refused(NoText, "wish n ab has abbbbb x", at=2)
        self.refused(NoText, "wish n ab and has c", at=3)
        self.refused(NoText, "wish n ab " + "not " * 12 + "x", at=12)
        self.refused(NoText, "wish n ab not not not not not not not not not not not", at=11)

    def test_no_name_ahead_of_no_row(self):
        self.refused(NoName, "takes x c", name="x")
        self.refused(NoName, "takes x wxyz", name="x")
        self.refused(NoName, "apart 3 three x", name="x")
        self.refused(NoName, "apart 3 x three", name="x")

    def test_no_name_ahead_of_no_fit(self):
        self.refused(NoName, "same three x", name="x")
        self.refused(NoName, "both n x tiny", name="x")
        self.refused(NoName, "apart 3 odd x", name="x")

    def test_no_fit_ahead_of_no_row(self):
        self.refused(NoFit, "apart 3 three odd")
        self.refused(NoFit, "apart 3 odd three")
        self.refused(NoFit, "apart 3 tiny three")
        self.refused(NoRow, "apart 3 three three")
        self.refused(NoRow, "apart 4 three odd")

    def test_a_refused_row_keeps_nothing_and_hinders_nothing(self):
        for row in ("machine new x", "wish new ab has c", "not new x", "both new odd three", "either new tiny odd"):
            with self.assertRaises(SpreadError):
                self.desk.say(row)
            self.refused(NoName, "show new", name="new")
        self.assertEqual(self.desk.say("not new odd"), "kept")


NAME = "([a-z]{1,6})"
WORD = r"(\.|[a-z]{1,30})"
FORMS = [re.compile(pattern) for pattern in (
    f"(machine) {NAME} (.*)", f"(wish) {NAME} ([a-z]{{1,3}}) (.*)", f"(not) {NAME} {NAME}",
    f"(both) {NAME} {NAME} {NAME}", f"(either) {NAME} {NAME} {NAME}", f"(show) {NAME}", f"(takes) {NAME} {WORD}",
    f"(sort) {NAME}", f"(length) {NAME}", f"(same) {NAME} {NAME}", f"(apart) ([0-3]) {NAME} {NAME}",
    f"(parts) {WORD} {WORD}", r"(form) ([0-3]) (\.|[a-z]{1,20})")]


def unshown(word):
    return "" if word == "." else word


def kept_of(kept, name):
    if name not in kept:
        raise NoName(name)
    return kept[name]


def said(kept, row):
    """What a desk that keeps these machines is to say; the machines may change."""
    found = [match.groups() for match in (pattern.fullmatch(row) for pattern in FORMS) if match]
    if not found:
        raise NoRow()
    first, rest = found[0][0], found[0][1:]
    if first in ("parts", "form"):
        words = [unshown(word) for word in rest]
        unlike = len(set("".join(words)) - set("0123"))
        if unlike > 3 or (first == "form" and unlike == 3 and rest[0] == "3"):
            raise NoRow()
        if first == "form":
            return form(words[1], int(rest[0])) or "."
        told = parting(words[0], words[1])
        return "same" if told is None else f"{told[0]} {told[1]}"
    if first == "wish" and list(rest[1]) != sorted(set(rest[1])):
        raise NoRow()
    if first in ("machine", "wish", "not", "both", "either"):
        kept[rest[0]] = said_made(kept, first, rest)
        return "kept"
    return said_told(kept, first, rest)


def said_made(kept, first, rest):
    if first == "machine":
        machine = read_machine("\n".join(rest[1].split(" ; ")))
        look_machine(machine)
        return least(machine)
    if first == "wish":
        wish = read_wish(rest[2])
        words = {part[1] for part in parts_in(wish) if part[0] == "has"}
        if (len(parts_in(wish)) > 10 or depth_in(wish) > 5 or any(len(word) > 3 for word in words)
                or len("".join(words)) > 6 or not set("".join(words)) <= set(rest[1])):
            raise NoRow()
        return machine_of(rest[1], wish)
    machines = [kept_of(kept, name) for name in rest[1:]]
    return {"not": contrary, "both": both, "either": either}[first](*machines)


def said_told(kept, first, rest):
    if first == "apart":
        one, other = kept_of(kept, rest[1]), kept_of(kept, rest[2])
        if one[0] == other[0] and len(one[0]) == 3 and rest[0] == "3":
            raise NoRow()
        return told_apart(one, other, int(rest[0]))[0]
    machine = kept_of(kept, rest[0])
    if first == "takes":
        if not set(unshown(rest[1])) <= set(machine[0]):
            raise NoRow()
        return "yes" if taken(machine, unshown(rest[1])) else "no"
    if first == "same":
        text = parting_text(machine, kept_of(kept, rest[1]))
        return "same" if text is None else text or "."
    if first == "show":
        return in_one_row(machine)
    if first == "sort":
        return "spread" if paper_of(machine)[0] == "spread" else "other"
    length = least_length(machine)
    return "none" if length is None else str(length)


def outcome(answer, row):
    """What was answered, or the refusal and its fields."""
    try:
        return answer(row)
    except SpreadError as error:
        return (type(error), vars(error))


def chance_row(dice):
    """A row that most often can be answered."""
    names = ("a", "b", "c", "odd", "some", "three", "tiny", "nokept")
    name, one, other = dice.choice(names[:3]), dice.choice(names), dice.choice(names)
    letters = dice.choice(("a", "ab", "abc"))
    words = ["".join(dice.choice(letters) for sign in range(dice.randrange(7))) or "." for word in range(2)]
    k = dice.randrange(5)
    machine = next(chance_machines(letters, dice.randrange(1, 8), 1, dice.randrange(1000)))
    wish = chance_wishes(letters, 3, 1, dice.randrange(1000))[0]
    return dice.choice((f"machine {name} {in_one_row(machine)}", f"wish {name} {letters} {show_wish(wish)}",
                        f"not {name} {one}", f"both {name} {one} {other}", f"either {name} {one} {other}",
                        f"show {one}", f"takes {one} {words[0]}", f"sort {one}", f"length {one}",
                        f"same {one} {other}", f"apart {k} {one} {other}", f"parts {words[0]} {words[1]}",
                        f"form {k} {words[0]}"))


def spoilt(row, dice):
    """The row with one sign or one word otherwise."""
    words = row.split(" ")
    place = dice.randrange(len(row) + 1)
    number = dice.randrange(len(words))
    return dice.choice((row[:place] + row[place + 1:], row[:place] + dice.choice(" .;\nabdz0139AZ") + row[place:],
                        row[:place] + dice.choice(" .;\nabdz0139AZ") + row[place + 1:], row[:place],
                        " ".join(words[:number] + words[number + 1:]),
                        " ".join(words[:number] + [dice.choice(words)] + words[number:]),
                        " ".join(words[:number] + [dice.choice(words)] + words[number + 1:])))


class ManyRows(unittest.TestCase):
    def test_rows_by_chance(self):
        found = {}
        for seed in range(60):
            dice = Random(seed)
            desk = filled_desk()
            kept = {name: read_machine(desk.say("show " + name).replace(" ; ", "\n")) for name in NAMES}
            for number in range(150):
                row = chance_row(dice)
                if dice.randrange(2):
                    row = spoilt(row, dice)
                told = outcome(desk.say, row)
                self.assertEqual(told, outcome(lambda one: said(kept, one), row), repr(row))
                found[told[0] if type(told) is tuple else row.split(" ")[0]] = True
                if any(len(machine[3]) > 30 for machine in kept.values()):
                    break
            for name in sorted(kept):
                self.assertEqual(desk.say("show " + name), in_one_row(kept[name]))
        self.assertEqual(len(found), 13 + 5, found)
