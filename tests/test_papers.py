import unittest

from spreadwords.checker import paper_holds
from spreadwords.joined import both, contrary, either
from spreadwords.least import least
from spreadwords.lengths import parted_at
from spreadwords.papers import longest_way, paper_of
from spreadwords.wished import machine_of
from tests.plain import (all_machines, chance_machines, chance_wishes, first_sort, kinds_of, longest_by_search,
                         paper_so, rising_machines, swollen)

ODD = ("ab", 0, (1,), ((1, 0), (0, 1)))
BEGINS_WITH_A = ("ab", 0, (1,), ((1, 2), (1, 1), (2, 2)))
HAS_AB = ("ab", 0, (2,), ((1, 0), (1, 2), (2, 2)))


def counting(letters, rooms):
    """Takes the texts of just as many letters as there are rooms but two."""
    return (letters, 0, (rooms - 2,), tuple((min(room + 1, rooms - 1),) * len(letters) for room in range(rooms)))


def drawn():
    """Machines made by chance, of one to three letters and one to six rooms, in several ways."""
    for letters in ("a", "ab", "cx", "abc"):
        for rooms in range(1, 7):
            yield from chance_machines(letters, rooms, 15, rooms)
            yield from rising_machines(letters, rooms, 40, rooms + 10)
        yield from (swollen(machine) for machine in rising_machines(letters, 3, 15, 20))


def told_machines():
    machines = [machine_of(letters, wish) for letters in ("a", "ab", "abc")
                for wish in chance_wishes(letters, 3, 25, 21)]
    yield from machines
    yield from (contrary(machine) for machine in machines)
    for one, other in ((HAS_AB, ODD), (HAS_AB, BEGINS_WITH_A), (ODD, BEGINS_WITH_A), (HAS_AB, counting("ab", 6))):
        yield both(one, other)
        yield either(one, other)
        yield contrary(both(one, other))


class PaperOf(unittest.TestCase):
    def look_at(self, machine):
        paper = paper_of(machine)
        own = least(machine)
        self.assertTrue(paper_so(own, paper), (machine, paper))
        self.assertIs(paper_holds(machine, paper), True, (machine, paper))
        self.assertEqual(paper[0] == "spread", first_sort(own), (machine, paper))
        self.look_at_kinds(paper)
        return paper

    def look_at_kinds(self, paper):
        if paper[0] == "spread":
            ranks = " ".join(["int"] * len(paper[1]))
            rows = " ".join(["tuple(int str str str)"] * len(paper[2]))
            self.assertEqual(kinds_of(paper), f"tuple(str tuple({ranks}) tuple({rows}))")
        elif paper[0] == "ring":
            self.assertEqual(kinds_of(paper), "tuple(str int str str)")
        else:
            self.assertEqual(paper[0], "apart")
            self.assertEqual(kinds_of(paper), "tuple(str int str str str)")

    def test_by_hand(self):
        self.assertEqual(self.look_at(HAS_AB)[0], "spread")
        self.assertEqual(self.look_at(ODD)[0], "ring")
        self.assertEqual(self.look_at(BEGINS_WITH_A)[:4], ("apart", 0, "a", "b"))

    def test_one_room(self):
        for letters, rows in (("a", 0), ("ab", 1), ("abc", 3)):
            for ends in ((), (0,)):
                paper = self.look_at((letters, 0, ends, ((0,) * len(letters),)))
                self.assertEqual(paper[0], "spread")
                self.assertEqual(len(paper[1]), 1)
                self.assertGreaterEqual(len(paper[2]), rows)

    def test_the_least_machine_has_one_room(self):
        for letters in ("a", "ab", "abc"):
            for machine in chance_machines(letters, 5, 10, 1):
                for ends in ((), tuple(range(5))):
                    paper = self.look_at((letters, machine[1], ends, machine[3]))
                    self.assertEqual(paper[0], "spread")
                    self.assertEqual(len(paper[1]), 1)

    def test_one_letter(self):
        for rooms in range(1, 7):
            count = len(least(counting("a", rooms))[3])
            self.assertEqual(self.look_at(counting("a", rooms)), ("spread", tuple(range(count)), ()))
        for rooms in range(2, 7):
            ring = ("a", 0, (0,), tuple(((room + 1) % rooms,) for room in range(rooms)))
            self.assertEqual(self.look_at(ring)[0], "ring")

    def test_steps_that_never_lead_back(self):
        found = {}
        for letters in ("ab", "abc"):
            for machine in rising_machines(letters, 6, 150, 2):
                found[self.look_at(machine)[0]] = True
        self.assertEqual(sorted(found), ["apart", "spread"])

    def test_ways_that_stay_apart_behind_some_letters(self):
        # From room 0 the letters lead to 1 and 2, and only behind more letters to 3 and 4, from where none leads away.
        late = ("ab", 0, (2, 3), ((1, 2), (3, 1), (2, 4), (3, 3), (4, 4)))
        self.assertEqual(self.look_at(late)[0], "apart")
        # Two letters stay apart, and the third one leads on.
        third = ("abc", 0, (1, 3), ((1, 2, 3), (1, 1, 3), (2, 2, 3), (3, 3, 3)))
        self.assertEqual(self.look_at(third)[:4], ("apart", 0, "a", "b"))

    def test_letters_that_meet_only_by_a_third(self):
        # a and b meet by c alone: no word of theirs does.
        machine = ("abc", 0, (1,), ((1, 2, 3), (1, 1, 3), (2, 2, 3), (3, 3, 3)))
        self.assertEqual(self.look_at(machine)[:4], ("apart", 0, "a", "b"))

    def test_drawn_machines(self):
        found = {}
        for machine in drawn():
            found[(len(machine[0]), self.look_at(machine)[0])] = True
        self.assertEqual(sorted(found), [(1, "ring"), (1, "spread"), (2, "apart"), (2, "ring"), (2, "spread"),
                                         (3, "apart"), (3, "ring"), (3, "spread")])

    def test_all_machines_of_two_rooms_and_of_three_of_one_letter(self):
        for letters, rooms in (("a", 1), ("a", 2), ("a", 3), ("a", 4), ("ab", 2), ("abc", 2)):
            for machine in all_machines(letters, rooms):
                self.look_at(machine)

    def test_told_machines(self):
        for machine in told_machines():
            self.look_at(machine)

    def test_wishes_machines_are_of_the_first_sort(self):
        for letters in ("a", "ab", "abc"):
            for wish in chance_wishes(letters, 3, 25, 22):
                self.assertEqual(paper_of(machine_of(letters, wish))[0], "spread")

    def test_whatever_their_size(self):
        self.assertEqual(self.look_at(counting("ab", 90))[0], "spread")
        ring = ("a", 0, (0,), tuple(((room + 1) % 120,) for room in range(120)))
        self.assertEqual(self.look_at(ring)[0], "ring")
        long_word = machine_of("ab", ("has", "ab" * 40))
        self.assertEqual(self.look_at(long_word)[0], "spread")

    def test_rooms_more_change_nothing(self):
        for machine in list(rising_machines("ab", 3, 25, 3)) + list(chance_machines("abc", 3, 25, 4)):
            self.assertEqual(self.look_at(swollen(machine)), self.look_at(machine))

    def test_asked_again(self):
        kept = [paper_of(machine) for machine in (ODD, HAS_AB, BEGINS_WITH_A)]
        paper_of(counting("abc", 5))
        self.assertEqual([paper_of(machine) for machine in (ODD, HAS_AB, BEGINS_WITH_A)], kept)


class LongestWay(unittest.TestCase):
    def look_at(self, machine):
        told = longest_way(machine)
        own = least(machine)
        if first_sort(own):
            self.assertIs(type(told), int)
            self.assertEqual(told, longest_by_search(own), machine)
        else:
            self.assertIsNone(told)
        return told

    def test_one_room(self):
        for letters in ("a", "ab", "abc"):
            self.assertEqual(self.look_at((letters, 0, (), ((0,) * len(letters),))), 0)
            self.assertEqual(self.look_at((letters, 0, (0,), ((0,) * len(letters),))), 0)

    def test_by_hand(self):
        self.assertEqual(self.look_at(HAS_AB), 2)
        self.assertEqual(self.look_at(counting("ab", 6)), 5)
        self.assertIsNone(self.look_at(ODD))
        self.assertIsNone(self.look_at(BEGINS_WITH_A))

    def test_not_the_first_texts_way(self):
        # By a one comes to the last room at once; the longest way goes by b, a, b.
        machine = ("ab", 0, (0, 2), ((3, 1), (2, 1), (2, 3), (3, 3)))
        self.assertEqual(least(machine)[3], ((1, 2), (1, 1), (3, 2), (3, 1)))
        self.assertEqual(self.look_at(machine), 3)
        # One letter leads to each room, and three letters go through all of them.
        self.assertEqual(self.look_at(("abc", 0, (1, 3), ((3, 1, 2), (2, 2, 1), (3, 3, 2), (3, 3, 3)))), 3)

    def test_rooms_more(self):
        for machine in list(rising_machines("ab", 3, 40, 5)) + list(rising_machines("a", 3, 10, 6)):
            self.assertEqual(self.look_at(swollen(machine)), self.look_at(machine))
        # No text leads to the long way 2, 3, 4, 5.
        self.assertEqual(self.look_at(("a", 0, (1, 5), ((1,), (1,), (3,), (4,), (5,), (5,)))), 1)

    def test_drawn_machines(self):
        found = {}
        for machine in drawn():
            found[self.look_at(machine)] = True
        for length in (None, 0, 1, 2, 3, 4, 5):
            self.assertIn(length, found)

    def test_told_machines(self):
        for machine in told_machines():
            self.look_at(machine)
        self.assertEqual(longest_way(machine_of("ab", ("has", "abba"))), 4)
        self.assertEqual(longest_way(counting("ab", 100)), 99)

    def test_texts_that_are_alike_to_so_much_are_not_parted(self):
        for letters, most in (("a", 3), ("ab", 3), ("abc", 2)):
            for machine in rising_machines(letters, 4, 60, 7):
                length = longest_way(machine)
                if length is not None and length <= most:
                    self.assertIsNone(parted_at(machine, length))

    def test_asked_again(self):
        self.assertEqual([longest_way(HAS_AB), longest_way(ODD), longest_way(HAS_AB)], [2, None, 2])
