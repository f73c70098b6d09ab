import unittest

from spreadwords.errors import NoMachine
from spreadwords.machines import look_machine, room_behind, takes
from tests.plain import texts_of

# Behind a text: how many a stand in it, by rests of three; it takes the texts with one or two over.
COUNTS = ("ab", 0, (1, 2), ((1, 0), (2, 1), (0, 2)))
LETTERS = ["a", "ab", "abc", "xz", "bmz"]


def mixed_machine(letters, rooms):
    steps = tuple(tuple((3 * room + 2 * place + room * place + 1) % rooms for place in range(len(letters)))
                  for room in range(rooms))
    return (letters, rooms // 2, tuple(range(0, rooms, 2)), steps)


def room_reached(machine, room, text):
    letters, begin, ends, steps = machine
    if text == "":
        return room
    return steps[room_reached(machine, room, text[:-1])][letters.index(text[-1])]


class Reading(unittest.TestCase):
    def test_machines_of_one_to_six_rooms_from_each_room(self):
        for letters in LETTERS:
            for rooms in range(1, 7):
                machine = mixed_machine(letters, rooms)
                for text in texts_of(letters, 4):
                    for room in range(rooms):
                        self.assertEqual(room_behind(machine, room, text), room_reached(machine, room, text))
                    end = room_reached(machine, machine[1], text)
                    self.assertIs(takes(machine, text), end in machine[2])

    def test_the_text_without_letters(self):
        for room in range(3):
            self.assertEqual(room_behind(COUNTS, room, ""), room)
        self.assertIs(takes(COUNTS, ""), False)
        self.assertIs(takes(("a", 1, (1,), ((1,), (0,))), ""), True)
        self.assertIs(takes(("a", 1, (0,), ((1,), (0,))), ""), False)

    def test_some_hundreds_of_letters(self):
        for count in range(300, 306):
            text = ("ab" * count + "bb" * 50)
            self.assertEqual(room_behind(COUNTS, 0, text), count % 3)
            self.assertEqual(room_behind(COUNTS, 2, text), (count + 2) % 3)
            self.assertIs(takes(COUNTS, text), count % 3 > 0)
        self.assertEqual(room_behind(COUNTS, 0, "a" * 20001), 0)

    def test_no_ends_and_all_ends(self):
        for text in texts_of("ab", 3):
            self.assertIs(takes(("ab", 0, (), ((1, 0), (0, 1))), text), False)
            self.assertIs(takes(("ab", 1, (0, 1), ((1, 0), (0, 1))), text), True)

    def test_begins_at_the_begin(self):
        stays = ((0, 0), (1, 1), (2, 2))
        for begin in range(3):
            self.assertEqual([takes(("ab", begin, (end,), stays), "abba") for end in range(3)],
                             [begin == end for end in range(3)])

    def test_kinds_and_asked_again(self):
        self.assertIs(type(room_behind(COUNTS, 0, "a")), int)
        kept = room_behind(COUNTS, 0, "aba")
        room_behind(mixed_machine("abc", 5), 3, "cab")
        self.assertEqual(room_behind(COUNTS, 0, "aba"), kept)
        self.assertEqual(COUNTS, ("ab", 0, (1, 2), ((1, 0), (2, 1), (0, 2))))


class Looks(unittest.TestCase):
    def refused(self, machine, word, at):
        with self.assertRaises(NoMachine) as caught:
            look_machine(machine)
        self.assertEqual((caught.exception.word, caught.exception.at), (word, at), machine)

    def test_good_machines(self):
        self.assertIs(look_machine(COUNTS), True)
        self.assertIs(look_machine(("z", 0, (), ((0,),))), True)
        for letters in LETTERS:
            for rooms in range(1, 7):
                machine = mixed_machine(letters, rooms)
                self.assertIs(look_machine(machine), True)
                for begin in range(rooms):
                    self.assertIs(look_machine((letters, begin, (), machine[3])), True)
                    self.assertIs(look_machine((letters, begin, tuple(range(rooms)), machine[3])), True)
                    self.assertIs(look_machine((letters, 0, (begin,), machine[3])), True)

    def test_letters(self):
        for letters in ("", "abcd", "ba", "aa", "acb", "A", "1", "a ", "ab\n", " ", "\u00e4", "aab", "x" * 40):
            self.refused((letters, 0, (), ((0,) * len(letters),)), "letters", len(letters))

    def test_rooms(self):
        self.refused(("ab", 0, (), ()), "rooms", 0)
        for rooms in (7, 8, 60):
            self.refused(("ab", 0, (), ((0, 0),) * rooms), "rooms", rooms)

    def test_begin(self):
        steps = ((0, 1), (1, 0))
        for begin in (-1, -2, -100, 2, 3, 6, 10 ** 20, -10 ** 20):
            self.refused(("ab", begin, (), steps), "begin", 0)
        self.assertIs(look_machine(("ab", 1, (), steps)), True)

    def test_ends(self):
        steps = ((0, 1), (1, 2), (2, 0))
        for ends in ((1, 0), (0, 0), (2, 2), (0, 2, 1), (0, 1, 1), (-1,), (-1, 0), (3,), (0, 3), (0, 1, 2, 3),
                     (10 ** 20,), (-10 ** 20, 1), (2, 1, 0), (0, 1, 2, 0, 1, 2), (1, -1), (3, 1)):
            self.refused(("ab", 0, ends, steps), "ends", len(ends))
        for ends in ((), (0,), (2,), (0, 2), (0, 1, 2)):
            self.assertIs(look_machine(("ab", 0, ends, steps)), True)

    def test_steps(self):
        good = [(0, 1), (1, 2), (2, 0), (0, 0)]
        for row in ((), (0,), (0, 0, 0), (0, 1, 2, 3), (4, 0), (0, 4), (-1, 0), (0, -1), (10 ** 20, 0), (0, -10 ** 20)):
            for at in range(4):
                steps = good[:at] + [row] + good[at + 1:]
                self.refused(("ab", 0, (), tuple(steps)), "steps", at)

    def test_the_first_room_with_wrong_steps(self):
        self.refused(("ab", 0, (0,), ((0, 1), (0,), (0, 7))), "steps", 1)
        self.refused(("ab", 0, (0,), ((0, 1), (0, 7), (0,))), "steps", 1)
        self.refused(("ab", 0, (0,), ((0, 3), (0, 7), ())), "steps", 0)

    def test_the_first_that_is_due(self):
        # All five faults at once, then one less each time.
        seven = ((9,),) * 7
        self.refused(("ba", 9, (3, 1), seven), "letters", 2)
        self.refused(("ab", 9, (3, 1), seven), "rooms", 7)
        self.refused(("ab", 9, (3, 1), seven[:6]), "begin", 0)
        self.refused(("ab", 5, (3, 1), seven[:6]), "ends", 2)
        self.refused(("ab", 5, (1, 3), seven[:6]), "steps", 0)
        self.refused(("ab", 5, (1, 3), ()), "rooms", 0)
        self.refused(("", -1, (3, 1), ()), "letters", 0)

    def test_two_faults_each(self):
        good = {"letters": "ab", "rooms": ((0, 1), (1, 0)), "begin": 1, "ends": (0, 1), "steps": None}
        bad = {"letters": ("abcd", 4), "rooms": (((0, 1),) * 9, 9), "begin": (-3, 0), "ends": ((1, 1, 0), 3),
               "steps": (((0, 1), (2, 0)), 1)}
        order = ["letters", "rooms", "begin", "ends", "steps"]
        for first in range(5):
            for second in range(first + 1, 5):
                if (order[first], order[second]) == ("rooms", "steps"):
                    continue
                parts = dict(good)
                for word in (order[first], order[second]):
                    parts["rooms" if word == "steps" else word] = bad[word][0]
                machine = (parts["letters"], parts["begin"], parts["ends"], parts["rooms"])
                self.refused(machine, order[first], bad[order[first]][1])

    def test_asked_again(self):
        machine = ("ab", 0, (1, 0), ((0, 1), (1, 0)))
        for again in range(2):
            self.refused(machine, "ends", 2)
            self.assertIs(look_machine(COUNTS), True)
