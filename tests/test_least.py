import unittest

from spreadwords.errors import NoFit, SpreadError
from spreadwords.least import least, parting_text
from spreadwords.machines import takes
from tests.plain import (chance_machines, kinds_of, kinds_of_machine, least_by_search, room_after, taken, texts_of,
                         texts_taken)

# Takes the texts with an odd number of a; rooms 2 and 3 say the same as 0 and 1, no text leads to 4.
ODD = ("ab", 2, (1, 3, 4), ((3, 2), (0, 1), (1, 0), (2, 3), (0, 4)))
LEAST_ODD = ("ab", 0, (1,), ((1, 0), (0, 1)))


def renumbered(machine, order):
    """The same machine, room order[n] in the place of room n."""
    letters, begin, ends, steps = machine
    rows = [None] * len(steps)
    for room, row in enumerate(steps):
        rows[order[room]] = tuple(order[there] for there in row)
    return (letters, order[begin], tuple(sorted(order[room] for room in ends)), tuple(rows))


def counting_machine(letters, rooms):
    """Takes the texts of fewer letters than rooms, less one."""
    return (letters, 0, tuple(range(rooms - 1)),
            tuple((min(room + 1, rooms - 1),) * len(letters) for room in range(rooms)))


def first_parting_text(one, other, most):
    for text in texts_of(one[0], most):
        if taken(one, text) != taken(other, text):
            return text
    return None


class Least(unittest.TestCase):
    def look_at(self, machine):
        told = least(machine)
        self.assertEqual(told, least_by_search(machine), machine)
        letters, begin, ends, steps = told
        self.assertEqual(kinds_of(told), kinds_of_machine(len(machine[0]), len(ends), len(steps)))
        self.assertEqual(least(told), told)
        return told

    def test_an_odd_number(self):
        self.assertEqual(self.look_at(ODD), LEAST_ODD)
        self.assertEqual(self.look_at(LEAST_ODD), LEAST_ODD)

    def test_rooms_that_no_text_leads_to(self):
        self.assertEqual(self.look_at(("a", 2, (0, 2), ((1,), (0,), (2,)))), ("a", 0, (0,), ((0,),)))
        self.assertEqual(self.look_at(("ab", 1, (0,), ((0, 0), (1, 2), (1, 2)))), ("ab", 0, (), ((0, 0),)))

    def test_like_rooms_two_and_more(self):
        self.assertEqual(self.look_at(("a", 0, (1, 2, 3), ((1,), (2,), (3,), (1,)))), ("a", 0, (1,), ((1,), (1,))))
        self.assertEqual(self.look_at(("ab", 0, (3, 4, 5), ((1, 2), (3, 4), (5, 3), (3, 4), (5, 5), (4, 3)))),
                         ("ab", 0, (2,), ((1, 1), (2, 2), (2, 2))))

    def test_the_begin_among_like_rooms(self):
        self.assertEqual(self.look_at(("ab", 3, (0,), ((0, 0), (2, 0), (3, 0), (1, 0)))),
                         ("ab", 0, (1,), ((0, 1), (1, 1))))
        self.assertEqual(self.look_at(("ab", 2, (1, 2), ((0, 2), (0, 1), (0, 1)))), ("ab", 0, (0,), ((1, 0), (1, 0))))

    def test_machines_that_take_none_and_all(self):
        for letters in ("a", "ab", "bmz"):
            for rooms in range(1, 7):
                steps = tuple(tuple((room + place + 1) % rooms for place in range(len(letters)))
                              for room in range(rooms))
                stay = (letters, 0, (), ((0,) * len(letters),))
                self.assertEqual(least((letters, rooms - 1, (), steps)), stay)
                self.assertEqual(least((letters, rooms - 1, tuple(range(rooms)), steps)), (letters, 0, (0,), stay[3]))

    def test_numbered_by_the_first_texts(self):
        self.assertEqual(self.look_at(("ab", 3, (0, 1), ((0, 0), (1, 2), (2, 0), (2, 1)))),
                         ("ab", 0, (2, 3), ((1, 2), (1, 3), (2, 1), (3, 3))))
        for machine in chance_machines("abc", 5, 40, 5):
            told = least(machine)
            firsts = {}
            for text in texts_of("abc", 5):
                firsts.setdefault(room_after(told, told[1], text), text)
            self.assertEqual(list(firsts), list(range(len(told[3]))))

    def test_all_machines_of_two_rooms(self):
        rows = [(x, y) for x in range(2) for y in range(2)]
        for ends in ((), (0,), (1,), (0, 1)):
            for begin in range(2):
                for one in rows:
                    for other in rows:
                        self.look_at(("ab", begin, ends, (one, other)))

    def test_against_a_search(self):
        for letters, count in (("a", 40), ("ab", 60), ("cx", 20), ("abc", 6)):
            for rooms in range(1, 7):
                for machine in chance_machines(letters, rooms, count, rooms):
                    told = self.look_at(machine)
                    self.assertEqual(texts_taken(told, 4), texts_taken(machine, 4))

    def test_the_same_just_where_the_least_are_equal(self):
        machines = [machine for rooms in (1, 2, 3) for machine in chance_machines("ab", rooms, 25, 6)]
        for one in machines:
            for other in machines:
                self.assertEqual(least(one) == least(other), texts_taken(one, 6) == texts_taken(other, 6))
                self.assertEqual(least(one) == least(other), parting_text(one, other) is None)

    def test_whatever_its_size(self):
        machine = counting_machine("ab", 150)
        self.assertEqual(least(machine), machine)
        order = [(room * 7) % 150 for room in range(150)]
        self.assertEqual(least(renumbered(machine, order)), machine)
        ring = ("a", 0, tuple(range(0, 300, 2)), tuple(((room + 1) % 300,) for room in range(300)))
        self.assertEqual(least(ring), ("a", 0, (0,), ((1,), (0,))))

    def test_nothing_is_changed_and_asked_again(self):
        kept = ("ab", 2, (1, 3, 4), ((3, 2), (0, 1), (1, 0), (2, 3), (0, 4)))
        self.assertEqual(least(ODD), LEAST_ODD)
        least(counting_machine("ab", 5))
        self.assertEqual(least(ODD), LEAST_ODD)
        self.assertEqual(ODD, kept)


class PartingText(unittest.TestCase):
    def test_the_same_machines_otherwise_numbered(self):
        for letters in ("a", "ab", "abc"):
            for machine in chance_machines(letters, 5, 20, 8):
                for order in ([1, 2, 3, 4, 0], [4, 3, 2, 1, 0], [2, 0, 4, 1, 3]):
                    other = renumbered(machine, order)
                    self.assertIsNone(parting_text(machine, other))
                    self.assertIsNone(parting_text(other, machine))
                self.assertIsNone(parting_text(machine, least(machine)))
                self.assertIsNone(parting_text(machine, machine))
        self.assertIsNone(parting_text(ODD, LEAST_ODD))

    def test_the_text_without_letters(self):
        self.assertEqual(parting_text(LEAST_ODD, ("ab", 1, (1,), LEAST_ODD[3])), "")
        self.assertEqual(parting_text(("ab", 0, (), ((0, 0),)), ("ab", 0, (0,), ((0, 0),))), "")

    def test_several_letters(self):
        none = ("ab", 0, (), ((0, 0),))
        self.assertEqual(parting_text(("ab", 0, (3,), ((0, 1), (2, 1), (2, 3), (3, 3))), none), "bab")
        self.assertEqual(parting_text(none, ("ab", 0, (3,), ((0, 1), (2, 1), (2, 3), (3, 3)))), "bab")
        self.assertEqual(parting_text(counting_machine("ab", 6), counting_machine("ab", 5)), "aaaa")
        self.assertEqual(parting_text(counting_machine("bmz", 3), counting_machine("bmz", 6)), "bb")

    def test_against_a_search_either_way_about(self):
        longest = 0
        for letters, rooms, others in (("a", 4, 6), ("ab", 3, 3), ("ab", 4, 2), ("ab", 6, 6), ("abc", 3, 2)):
            most = min(rooms * others, 10 if len(letters) == 2 else 6 if len(letters) == 3 else 24)
            for one in chance_machines(letters, rooms, 12, 9):
                for other in chance_machines(letters, others, 12, 10):
                    told = parting_text(one, other)
                    wanted = first_parting_text(one, other, most)
                    if wanted is None and told is not None:
                        self.assertGreater(len(told), most)
                        self.assertNotEqual(takes(one, told), takes(other, told))
                    else:
                        self.assertEqual(told, wanted)
                    self.assertEqual(parting_text(other, one), told)
                    longest = max(longest, len(told or ""))
        self.assertGreater(longest, 2)

    def test_the_first_of_one_length(self):
        dead = 5
        for word in ("aab", "aba", "abb", "baa", "bba"):
            # Takes the word alone.
            rows = [(place + 1, dead) if letter == "a" else (dead, place + 1) for place, letter in enumerate(word)]
            rows += [(dead, dead)] * 3
            only = ("ab", 0, (3,), tuple(rows))
            bbb = ("ab", 0, (3,), ((dead, 1), (dead, 2), (dead, 3), (dead, dead), (dead, dead), (dead, dead)))
            self.assertEqual(parting_text(only, bbb), word)
            self.assertEqual(parting_text(bbb, only), word)

    def test_whatever_their_size(self):
        self.assertEqual(parting_text(counting_machine("ab", 90), counting_machine("ab", 120)), "a" * 89)
        rings = [("a", 0, (count - 1,), tuple(((room + 1) % count,) for room in range(count))) for count in (31, 37)]
        self.assertEqual(parting_text(rings[0], rings[1]), "a" * 30)

    def test_other_letters(self):
        machines = [(letters, 0, (), ((0,) * len(letters),)) for letters in ("a", "b", "ab", "ac", "bc", "abc", "abd")]
        for one in machines:
            for other in machines:
                if one == other:
                    self.assertIsNone(parting_text(one, other))
                else:
                    with self.assertRaises(NoFit) as caught:
                        parting_text(one, other)
                    self.assertIsInstance(caught.exception, SpreadError)

    def test_asked_again(self):
        kept = parting_text(ODD, counting_machine("ab", 4))
        parting_text(LEAST_ODD, ("ab", 0, (), ((0, 0),)))
        self.assertEqual(parting_text(ODD, counting_machine("ab", 4)), kept)
        self.assertIs(type(kept), str)
