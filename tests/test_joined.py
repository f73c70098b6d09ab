import unittest

from spreadwords.errors import NoFit, SpreadError
from spreadwords.joined import both, contrary, either
from spreadwords.least import least, parting_text
from spreadwords.machines import takes
from tests.plain import chance_machines, kinds_of, kinds_of_machine, taken, texts_of

SOME_A = ("ab", 0, (1,), ((1, 0), (1, 1)))
SOME_B = ("ab", 0, (1,), ((0, 1), (1, 1)))
NONE = ("ab", 0, (), ((0, 0),))
ALL = ("ab", 0, (0,), ((0, 0),))


def counts_of(letter, rest):
    """Takes the texts of a and b in which the letter stands a number of times that rest divides."""
    turns = [((room + 1) % rest, room) if letter == "a" else (room, (room + 1) % rest) for room in range(rest)]
    return ("ab", 0, (0,), tuple(turns))


class Joined(unittest.TestCase):
    def least_of_its_kinds(self, machine):
        letters, begin, ends, steps = machine
        self.assertEqual(least(machine), machine)
        self.assertEqual(kinds_of(machine), kinds_of_machine(len(letters), len(ends), len(steps)))

    def test_by_hand(self):
        self.assertEqual(contrary(SOME_A), ("ab", 0, (0,), ((1, 0), (1, 1))))
        self.assertEqual(both(SOME_A, SOME_B), ("ab", 0, (3,), ((1, 2), (1, 3), (3, 2), (3, 3))))
        self.assertEqual(either(SOME_A, SOME_B), ("ab", 0, (1,), ((1, 1), (1, 1))))
        self.assertEqual(contrary(NONE), ALL)
        self.assertEqual(contrary(ALL), NONE)

    def test_against_takes(self):
        for letters, rooms, others, most in (("a", 3, 5, 16), ("ab", 4, 4, 6), ("ab", 2, 6, 6), ("ab", 6, 6, 6),
                                             ("abc", 3, 4, 4), ("xz", 1, 5, 5)):
            texts = list(texts_of(letters, most))
            for one, other in zip(chance_machines(letters, rooms, 15, 11), chance_machines(letters, others, 15, 12)):
                not_one = contrary(one)
                two = both(one, other)
                any_of = either(one, other)
                for machine in (not_one, two, any_of):
                    self.least_of_its_kinds(machine)
                    self.assertEqual(machine[0], letters)
                for text in texts:
                    self.assertIs(takes(not_one, text), not taken(one, text))
                    self.assertIs(takes(two, text), taken(one, text) and taken(other, text))
                    self.assertIs(takes(any_of, text), taken(one, text) or taken(other, text))

    def test_contrary_of_a_contrary(self):
        for letters in ("a", "ab", "abc"):
            for rooms in range(1, 7):
                for machine in chance_machines(letters, rooms, 20, 13):
                    self.assertEqual(contrary(contrary(machine)), least(machine))

    def test_with_itself_and_with_its_contrary(self):
        for letters in ("a", "ab", "abc"):
            stay = (letters, 0, (), ((0,) * len(letters),))
            for rooms in range(1, 7):
                for machine in chance_machines(letters, rooms, 10, 14):
                    self.assertEqual(both(machine, machine), least(machine))
                    self.assertEqual(either(machine, machine), least(machine))
                    self.assertEqual(both(machine, contrary(machine)), stay)
                    self.assertEqual(either(contrary(machine), machine), (letters, 0, (0,), stay[3]))

    def test_either_way_about(self):
        for one in chance_machines("ab", 5, 8, 15):
            for other in chance_machines("ab", 4, 8, 16):
                self.assertEqual(both(one, other), both(other, one))
                self.assertEqual(either(one, other), either(other, one))
                self.assertEqual(contrary(both(one, other)), either(contrary(one), contrary(other)))

    def test_told_machines_of_more_than_six_rooms(self):
        fives = both(counts_of("a", 5), counts_of("b", 6))
        self.assertEqual(len(fives[3]), 30)
        again = both(fives, counts_of("a", 4))
        self.assertEqual(len(again[3]), 120)
        self.assertEqual(contrary(contrary(again)), again)
        self.assertEqual(both(again, fives), again)
        self.assertEqual(either(again, fives), fives)
        self.assertIs(takes(again, "a" * 20 + "b" * 6), True)
        self.assertIs(takes(again, "a" * 10 + "b" * 6), False)
        self.assertIs(takes(contrary(again), "a" * 10 + "b" * 6), True)
        self.assertEqual(parting_text(again, fives), "a" * 5)
        for machine in (fives, again, contrary(again), either(fives, counts_of("b", 4))):
            self.least_of_its_kinds(machine)

    def test_other_letters(self):
        machines = [(letters, 0, (0,), ((0,) * len(letters),)) for letters in ("a", "b", "ab", "ac", "bc", "abc")]
        for one in machines:
            for other in machines:
                for join in (both, either):
                    if one[0] == other[0]:
                        self.assertEqual(join(one, other), one)
                    else:
                        with self.assertRaises(NoFit) as caught:
                            join(one, other)
                        self.assertIsInstance(caught.exception, SpreadError)

    def test_asked_again(self):
        kept = (contrary(SOME_A), both(SOME_A, SOME_B), either(SOME_A, SOME_B))
        both(NONE, ALL)
        self.assertEqual((contrary(SOME_A), both(SOME_A, SOME_B), either(SOME_A, SOME_B)), kept)
