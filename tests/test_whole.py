"""What is promised over the whole program."""

import copy
import importlib
import inspect
import unittest
from random import Random

from spreadwords.apart import told_apart
from spreadwords.apartlooks import apart_holds
from spreadwords.checker import paper_holds
from spreadwords.cuts import ahead, behind
from spreadwords.errors import SpreadError
from spreadwords.forms import form, forms
from spreadwords.joined import both, contrary, either
from spreadwords.least import least
from spreadwords.lengths import least_length, parted_at
from spreadwords.loose import fillings, loose
from spreadwords.machines import takes
from spreadwords.moved import wish_ahead, wish_behind
from spreadwords.papers import longest_way, paper_of
from spreadwords.parted import alike, parting
from spreadwords.spreads import spread_words
from spreadwords.sticks import sticks
from spreadwords.wished import machine_of
from spreadwords.wishes import words_in
from spreadwords.wishmaker import wish_of
from spreadwords.words import places, spread_in
from tests.plain import chance_machines, chance_wishes, parts_in, rising_machines, texts_of

# By each module its functions and classes, and what is handed to them.
INTERFACE = {
    "errors": {"NoText": "at", "NoMachine": "word at", "NoFit": "", "NoName": "name", "NoRow": ""},
    "words": {"is_letters": "text", "is_word": "text", "spread_in": "word text", "places": "word text",
              "ways": "word text"},
    "spreads": {"spread_words": "text k"},
    "parted": {"parting": "one other", "alike": "one other k"},
    "arches": {"arches": "letters text", "absent": "letters text"},
    "loose": {"loose": "text k", "fillings": "letters text k"},
    "forms": {"form": "text k", "forms": "letters k"},
    "machines": {"look_machine": "machine", "room_behind": "machine room text", "takes": "machine text"},
    "machinetexts": {"show_machine": "machine", "read_machine": "text"},
    "least": {"least": "machine", "parting_text": "one other"},
    "joined": {"contrary": "machine", "both": "one other", "either": "one other"},
    "cuts": {"behind": "machine word", "ahead": "machine word"},
    "wishes": {"holds": "wish text", "words_in": "wish"},
    "moved": {"wish_behind": "wish letter", "wish_ahead": "wish letter", "wish_turned": "wish"},
    "wishtexts": {"show_wish": "wish", "read_wish": "text"},
    "wished": {"machine_of": "letters wish", "parting_wishes": "letters one other"},
    "papers": {"paper_of": "machine", "longest_way": "machine"},
    "checker": {"paper_holds": "machine paper"},
    "sticks": {"sticks": "machine k"},
    "lengths": {"parted_at": "machine k", "least_length": "machine"},
    "wishmaker": {"wish_of": "machine k"},
    "apart": {"told_apart": "one other k"},
    "apartlooks": {"apart_holds": "one other k told"},
    "desk": {"Desk": ""},
}

ODD = ("ab", 0, (1,), ((1, 0), (0, 1)))
BEGINS_WITH_A = ("ab", 0, (1,), ((1, 2), (1, 1), (2, 2)))
WISH = ("or", ("has", "ab"), ("not", ("has", "b")))
HANDED = {
    "is_letters": [("ab",), ("ba",)], "is_word": [("ab",), ("A",)], "spread_in": [("ab", "bab"), ("bb", "ab")],
    "places": [("ab", "bab"), ("bb", "ab")], "ways": [("ab", "abab"), ("", "")], "spread_words": [("abab", 3), ("", 2)],
    "parting": [("abab", "abba"), ("a", "a")], "alike": [("abab", "abba", 2), ("abab", "abba", 3)],
    "arches": [("ab", "aabaa"), ("abc", "")], "absent": [("ab", "aabaa"), ("abc", "")],
    "loose": [("abca", 1), ("abab", 2)], "fillings": [("ac", "ab", 1), ("ab", "abab", 2)],
    "form": [("bbaabb", 2), ("abc", 1)], "forms": [("ab", 2), ("abc", 1)],
    "look_machine": [(ODD,), (("ab", 2, (), ((0, 0),)),)], "room_behind": [(ODD, 1, "aab")], "takes": [(ODD, "aab")],
    "show_machine": [(ODD,)], "read_machine": [("letters a\nbegin 0\nends\nroom 0",), ("letters",)],
    "least": [(ODD,), (BEGINS_WITH_A,)], "parting_text": [(ODD, BEGINS_WITH_A), (ODD, ("a", 0, (), ((0,),)))],
    "contrary": [(ODD,)], "both": [(ODD, BEGINS_WITH_A)], "either": [(ODD, BEGINS_WITH_A)],
    "behind": [(ODD, "a")], "ahead": [(BEGINS_WITH_A, "ab")], "holds": [(WISH, "bab"), (WISH, "b")],
    "words_in": [(WISH,)], "wish_behind": [(WISH, "a")], "wish_ahead": [(WISH, "b")], "wish_turned": [(WISH,)],
    "show_wish": [(WISH,)], "read_wish": [("or has ab not has b",), ("or has",)], "machine_of": [("ab", WISH)],
    "parting_wishes": [("ab", WISH, ("always",))], "paper_of": [(ODD,), (BEGINS_WITH_A,)], "longest_way": [(ODD,)],
    "paper_holds": [(ODD, ("ring", 0, "a", "a")), (ODD, ("spread", (0, 1), ()))], "sticks": [(ODD, 2)],
    "parted_at": [(ODD, 1), (BEGINS_WITH_A, 2)], "least_length": [(ODD,)], "wish_of": [(BEGINS_WITH_A, 2)],
    "told_apart": [(ODD, BEGINS_WITH_A, 2)], "apart_holds": [(ODD, BEGINS_WITH_A, 1, ("wish", WISH))],
}


def named(module, name):
    return getattr(importlib.import_module("spreadwords." + module), name)


def outcome(function, handed):
    try:
        return function(*handed)
    except SpreadError as error:
        return (type(error), vars(error))


class Interface(unittest.TestCase):
    def test_names_and_arguments(self):
        for module, names in INTERFACE.items():
            for name, arguments in names.items():
                thing = named(module, name)
                if name not in ("NoFit", "NoRow"):
                    self.assertEqual(list(inspect.signature(thing).parameters), arguments.split(), (module, name))
                self.assertEqual(thing.__module__, "spreadwords." + module)

    def test_the_desk_is_told_a_row(self):
        desk = named("desk", "Desk")()
        self.assertEqual(list(inspect.signature(desk.say).parameters), ["row"])


class Again(unittest.TestCase):
    def calls(self):
        for module, names in INTERFACE.items():
            for name in names:
                for handed in HANDED.get(name, []):
                    yield named(module, name), handed

    def test_each_function_is_called(self):
        called = {function.__name__ for function, handed in self.calls()}
        wanted = {name for module, names in INTERFACE.items() for name in names if module not in ("errors", "desk")}
        self.assertEqual(called, wanted)

    def test_asked_again_whatever_was_asked_between(self):
        calls = list(self.calls())
        first = [outcome(function, handed) for function, handed in calls]
        kept = copy.deepcopy(first)
        for seed in range(3):
            order = list(range(len(calls)))
            Random(seed).shuffle(order)
            for number in order:
                function, handed = calls[number]
                self.assertEqual(outcome(function, handed), kept[number], function.__name__)
        self.assertEqual(first, kept)

    def test_nothing_that_is_handed_in_is_changed(self):
        for function, handed in self.calls():
            kept = copy.deepcopy(handed)
            outcome(function, handed)
            self.assertEqual(handed, kept, function.__name__)

    def test_every_list_that_is_told_is_a_new_one(self):
        lists = [(places, ("ab", "bab")), (spread_words, ("abab", 2)), (loose, ("abca", 1)),
                 (fillings, ("ab", "ab", 1)), (forms, ("ab", 1)), (words_in, (WISH,))]
        for function, handed in lists:
            told = function(*handed)
            self.assertIs(type(told), list)
            kept = list(told)
            told.append("more")
            told.reverse()
            self.assertEqual(function(*handed), kept)
            self.assertIsNot(function(*handed), function(*handed))

    def test_only_these_are_lists(self):
        told = [(function.__name__, outcome(function, handed)) for function, handed in self.calls()]
        found = {name for name, value in told if type(value) is list}
        self.assertEqual(found, {"places", "spread_words", "loose", "fillings", "forms", "words_in"})


def most_for(machine):
    return 2 if len(machine[0]) == 3 else 3


class Promise(unittest.TestCase):
    def machines(self):
        for letters in ("a", "ab", "abc"):
            for rooms in (2, 3, 4, 5):
                yield from chance_machines(letters, rooms, 4, 120)
                yield from rising_machines(letters, rooms, 8, 121)

    def test_texts_are_alike_just_where_their_forms_are_the_same(self):
        texts = list(texts_of("ab", 4)) + list(texts_of("abc", 2))
        for one in texts:
            for other in texts:
                told = parting(one, other)
                self.assertEqual(told is None, one == other)
                for k in range(3):
                    self.assertEqual(alike(one, other, k), form(one, k) == form(other, k))
                    self.assertEqual(alike(one, other, k), told is None or k <= told[0])
                if told is not None:
                    self.assertNotEqual(spread_in(told[1], one), spread_in(told[1], other))

    def test_just_one_of_two_is_shown(self):
        for machine in self.machines():
            paper = paper_of(machine)
            self.assertTrue(paper_holds(machine, paper))
            if paper[0] == "spread":
                length = longest_way(machine)
                if length <= most_for(machine):
                    self.assertIsNone(parted_at(machine, length))
                self.assertIsNone(sticks(machine, 2))
            else:
                self.assertIsNone(longest_way(machine))
                self.assertIsNone(least_length(machine))
                for k in range(4):
                    one, other = sticks(machine, k)
                    self.assertTrue(alike(one, other, k))
                    self.assertNotEqual(takes(machine, one), takes(machine, other))

    def test_the_least_length_and_the_wish(self):
        for machine in self.machines():
            length = least_length(machine)
            for k in range(most_for(machine) + 1):
                told = parted_at(machine, k)
                wish = wish_of(machine, k)
                self.assertEqual(told is None, length is not None and k >= length)
                self.assertEqual(wish is None, told is not None)
                if wish is not None:
                    self.assertEqual(machine_of(machine[0], wish), least(machine))
                self.assertEqual(told_apart(machine, contrary(machine), k)[0], "wish" if told is None else "alike")

    def test_two_machines(self):
        for letters in ("a", "ab", "abc"):
            machines = list(rising_machines(letters, 4, 10, 122)) + list(chance_machines(letters, 3, 6, 123))
            for one, other in zip(machines, reversed(machines)):
                for k in range(most_for(one) + 1):
                    told = told_apart(one, other, k)
                    self.assertTrue(apart_holds(one, other, k, told))
                    if told[0] == "alike":
                        self.assertTrue(takes(one, told[1]) and takes(other, told[2]) and alike(told[1], told[2], k))

    def test_what_is_done_to_wishes_is_done_to_their_machines(self):
        for letters in ("ab", "abc"):
            wishes = [wish for wish in chance_wishes(letters, 2, 30, 124) if len(parts_in(wish)) <= 5]
            for one, other in zip(wishes, wishes[1:]):
                here, there = machine_of(letters, one), machine_of(letters, other)
                self.assertEqual(machine_of(letters, ("and", one, other)), both(here, there))
                self.assertEqual(machine_of(letters, ("or", one, other)), either(here, there))
                self.assertEqual(machine_of(letters, ("not", one)), contrary(here))
                for letter in letters:
                    self.assertEqual(machine_of(letters, wish_behind(one, letter)), behind(here, letter))
                    self.assertEqual(machine_of(letters, wish_ahead(one, letter)), ahead(here, letter))

    def test_the_machine_of_a_told_wish_as_a_machine_again(self):
        for machine in rising_machines("ab", 4, 25, 125):
            wish = wish_of(machine, 3)
            if wish is not None:
                again = wish_of(machine_of("ab", wish), 3)
                self.assertEqual(machine_of("ab", again), machine_of("ab", wish))
