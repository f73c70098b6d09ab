import unittest

from spreadwords.joined import both, contrary, either
from spreadwords.least import least
from spreadwords.machines import takes
from spreadwords.papers import paper_of
from spreadwords.parted import alike
from spreadwords.sticks import sticks
from spreadwords.wished import machine_of
from tests.plain import (all_machines, chance_machines, chance_wishes, first_sort, kinds_of, rising_machines,
                         spread_set, swollen, taken)

ODD = ("ab", 0, (1,), ((1, 0), (0, 1)))
BEGINS_WITH_A = ("ab", 0, (1,), ((1, 2), (1, 1), (2, 2)))
LATE = ("ab", 0, (2, 3), ((1, 2), (3, 1), (2, 4), (3, 3), (4, 4)))
HAS_AB = ("ab", 0, (2,), ((1, 0), (1, 2), (2, 2)))


class Sticks(unittest.TestCase):
    def look_at(self, machine, most):
        """Whether texts are told, as they are for each k or for none."""
        wanted = not first_sort(least(machine))
        for k in range(most + 1):
            told = sticks(machine, k)
            if not wanted:
                self.assertIsNone(told, (machine, k))
                continue
            self.assertEqual(kinds_of(told), "tuple(str str)")
            one, other = told
            self.assertLessEqual(set(one + other), set(machine[0]))
            self.assertEqual(spread_set(one, k), spread_set(other, k), (machine, k))
            self.assertNotEqual(taken(machine, one), taken(machine, other), (machine, k))
        return wanted

    def test_a_ring(self):
        self.assertTrue(self.look_at(ODD, 6))
        self.assertTrue(self.look_at(contrary(ODD), 6))
        # The ring lies behind two letters, and its rooms are parted by two letters more.
        deep = ("ab", 0, (5,), ((1, 0), (1, 2), (3, 2), (2, 4), (4, 5), (5, 5)))
        self.assertEqual(paper_of(deep)[0], "ring")
        self.assertTrue(self.look_at(deep, 6))

    def test_a_ring_of_several_letters(self):
        for rooms in (2, 3, 4, 5, 6):
            for letters in ("a", "ab", "abc"):
                ring = (letters, 0, (0,), tuple(((room + 1) % rooms,) + (room,) * (len(letters) - 1)
                                                for room in range(rooms)))
                self.assertTrue(self.look_at(ring, 6))
        mixed = ("abc", 0, (3,), ((1, 0, 0), (1, 2, 1), (2, 2, 3), (0, 3, 3)))
        self.assertTrue(self.look_at(mixed, 6))

    def test_two_ways_apart(self):
        for machine in (BEGINS_WITH_A, LATE):
            self.assertEqual(paper_of(machine)[0], "apart")
            self.assertTrue(self.look_at(machine, 6))
            self.assertTrue(self.look_at(contrary(machine), 6))
        # The fork lies behind c, and c leads on from one of its ends.
        three = ("abc", 0, (4,), ((0, 0, 1), (2, 3, 1), (2, 2, 4), (3, 3, 3), (4, 4, 4)))
        self.assertEqual(paper_of(three)[0], "apart")
        self.assertTrue(self.look_at(three, 6))

    def test_the_begin_is_an_end_and_is_not(self):
        for machine in (ODD, BEGINS_WITH_A, LATE, ("abc", 0, (1,), ((1, 0, 0), (1, 0, 1)))):
            with_begin = (machine[0], machine[1], (0,) + machine[2], machine[3])
            for other in (machine, contrary(machine)):
                self.assertTrue(self.look_at(other, 6))
            self.look_at(with_begin, 4)

    def test_none_where_a_paper_of_the_first_sort_holds(self):
        self.assertFalse(self.look_at(HAS_AB, 6))
        for letters in ("a", "ab", "abc"):
            self.assertFalse(self.look_at((letters, 0, (), ((0,) * len(letters),)), 6))
            for wish in chance_wishes(letters, 3, 15, 40):
                self.assertFalse(self.look_at(machine_of(letters, wish), 6))

    def test_all_machines_of_two_rooms(self):
        for letters in ("a", "ab", "abc"):
            for machine in all_machines(letters, 2):
                self.look_at(machine, 4)

    def test_drawn_machines(self):
        found = {}
        for letters in ("a", "ab", "cx", "abc"):
            for rooms in range(1, 7):
                machines = list(chance_machines(letters, rooms, 8, 41)) + list(rising_machines(letters, rooms, 10, 42))
                for machine in machines:
                    found[(len(letters), self.look_at(machine, 6))] = True
        self.assertEqual(len(found), 6)

    def test_rooms_more(self):
        for machine in (ODD, BEGINS_WITH_A, HAS_AB):
            self.look_at(swollen(machine), 6)

    def test_told_machines(self):
        for one, other in ((HAS_AB, ODD), (ODD, BEGINS_WITH_A), (LATE, ODD)):
            self.assertTrue(self.look_at(both(one, other), 6))
            self.assertTrue(self.look_at(either(one, other), 6))
        # No text has both an odd and an even number of a.
        self.assertFalse(self.look_at(both(ODD, contrary(ODD)), 6))
        self.look_at(both(LATE, HAS_AB), 6)
        self.look_at(either(LATE, HAS_AB), 6)
        ring = ("a", 0, (7,), tuple(((room + 1) % 30,) for room in range(30)))
        self.assertTrue(self.look_at(ring, 6))

    def test_what_is_told_is_handed_on(self):
        for machine in (ODD, BEGINS_WITH_A, LATE):
            for k in range(7):
                one, other = sticks(machine, k)
                self.assertTrue(alike(one, other, k))
                self.assertNotEqual(takes(machine, one), takes(machine, other))

    def test_asked_again(self):
        kept = sticks(LATE, 3)
        sticks(ODD, 3)
        sticks(LATE, 4)
        self.assertEqual(sticks(LATE, 3), kept)
