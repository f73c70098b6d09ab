import unittest
from string import ascii_lowercase

from spreadwords.errors import NoText, SpreadError
from spreadwords.machinetexts import read_machine, show_machine
from tests.plain import chance_machines, kinds_of, kinds_of_machine

GOOD = ["letters ab", "begin 0", "ends 0 2", "room 0 1", "room 2 1", "room 2 0"]


def even_machine(letters, rooms):
    return (letters, 0, (0,), tuple((room,) * len(letters) for room in range(rooms)))


class Written(unittest.TestCase):
    def test_the_rows(self):
        self.assertEqual(show_machine(("ab", 0, (0, 2), ((0, 1), (2, 1), (2, 0)))), "\n".join(GOOD))
        self.assertEqual(show_machine(("a", 0, (), ((0,),))), "letters a\nbegin 0\nends\nroom 0")
        self.assertEqual(show_machine(("bmz", 12, (7, 7, 0, 999), ((0, 10, 100), (999, 1, 2)))),
                         "letters bmz\nbegin 12\nends 7 7 0 999\nroom 0 10 100\nroom 999 1 2")
        self.assertEqual(show_machine((ascii_lowercase, 3, (5,), (tuple(range(26)),))),
                         "letters abcdefghijklmnopqrstuvwxyz\nbegin 3\nends 5\nroom "
                         + " ".join(str(number) for number in range(26)))


class WrittenAndRead(unittest.TestCase):
    def same_again(self, machine):
        text = show_machine(machine)
        self.assertIs(type(text), str)
        again = read_machine(text)
        self.assertEqual(again, machine)
        letters, begin, ends, steps = machine
        self.assertEqual(kinds_of(again), kinds_of_machine(len(letters), len(ends), len(steps)))
        self.assertEqual(show_machine(again), text)

    def test_letters_one_to_five_and_twenty_six(self):
        for letters in ("a", "z", "ab", "yz", "abc", "bmz", "abcd", "acegz", ascii_lowercase):
            for rooms in (1, 2, 3, 6, 7, 50):
                self.same_again(even_machine(letters, rooms))

    def test_a_thousand_rooms(self):
        self.same_again(even_machine("ab", 1000))

    def test_ends_of_all_sorts(self):
        steps = ((0, 1), (1, 2), (2, 0))
        for ends in ((), (0,), (2,), (0, 1, 2), (2, 1, 0), (1, 1), (1, 1, 1, 0, 2), (3,), (999,), (999, 0, 500),
                     tuple(range(40)), tuple(range(999, 0, -7))):
            self.same_again(("ab", 0, ends, steps))

    def test_numbers_from_0_to_999(self):
        for number in range(1000):
            self.same_again(("a", number, (number, 0), ((number,), (999 - number,))))

    def test_a_begin_and_steps_of_no_room(self):
        self.same_again(("ab", 1, (), ((0, 0),)))
        self.same_again(("ab", 999, (), ((999, 0),)))

    def test_machines_of_all_sorts(self):
        for letters in ("a", "ab", "abc", "dnpx"):
            for rooms in (1, 2, 4, 6):
                for machine in chance_machines(letters, rooms, 10, 3):
                    self.same_again(machine)

    def test_each_machine_has_its_own_text(self):
        machines = [machine for rooms in (1, 2, 3) for machine in chance_machines("ab", rooms, 40, 4)]
        machines += [("ab", 0, ends, ((0, 0),)) for ends in ((), (0,), (0, 0), (1, 2), (12,), (2, 1), (1, 12), (11, 2))]
        self.assertEqual(len({show_machine(machine) for machine in machines}), len(set(machines)))

    def test_asked_again(self):
        text = "\n".join(GOOD)
        kept = read_machine(text)
        read_machine("letters c\nbegin 1\nends\nroom 0")
        self.assertEqual(read_machine(text), kept)


class Refused(unittest.TestCase):
    def refused(self, text, at):
        with self.assertRaises(NoText) as caught:
            read_machine(text)
        self.assertEqual(caught.exception.at, at, text)
        self.assertIs(type(caught.exception.at), int)
        self.assertIsInstance(caught.exception, SpreadError)

    def row_refused(self, at, row):
        self.refused("\n".join(GOOD[:at] + [row] + GOOD[at + 1:]), at)
        self.refused("\n".join(GOOD[:at] + [row]), at)

    def row_read(self, at, row):
        text = "\n".join(GOOD[:at] + [row] + GOOD[at + 1:])
        self.assertEqual(show_machine(read_machine(text)), text)

    def test_without_signs_and_blanks_alone(self):
        self.refused("", 0)
        self.refused(" ", 0)
        self.refused("\n", 0)
        self.refused("\n\n", 0)

    def test_ends_too_early(self):
        for count in (1, 2, 3):
            self.refused("\n".join(GOOD[:count]), count)
        for count in (4, 5, 6):
            self.assertEqual(len(read_machine("\n".join(GOOD[:count]))[3]), count - 3)

    def test_a_row_left_out(self):
        for at in (0, 1, 2):
            self.refused("\n".join(GOOD[:at] + GOOD[at + 1:]), at)
        self.refused("\n".join(GOOD[:3]), 3)

    def test_a_row_twice(self):
        for at in (0, 1, 2):
            self.refused("\n".join(GOOD[:at + 1] + GOOD[at:]), at + 1)
        for at in (0, 1, 2):
            self.refused("\n".join(GOOD + [GOOD[at]]), 6)

    def test_two_rows_exchanged(self):
        for one in range(3):
            for other in range(one + 1, 6):
                rows = list(GOOD)
                rows[one], rows[other] = rows[other], rows[one]
                self.refused("\n".join(rows), one)

    def test_rows_of_other_words(self):
        for at, name in enumerate(["letters", "begin", "ends", "room"]):
            rest = GOOD[at][len(name):]
            for other in ("", "x", name[:-1], name + "s", name.upper(), name.capitalize(), "rooms", "end", "letter",
                          name + ";", "." + name):
                if other != name:
                    self.row_refused(at, other + rest)
            self.row_refused(at, "")
            self.row_refused(at, rest.strip())

    def test_letters(self):
        for row in ("letters", "letters ", "letters aa", "letters ba", "letters aba", "letters abb", "letters A",
                    "letters aB", "letters a1", "letters .", "letters a b", "letters ab c", "letters ab 0",
                    "letters  ab", " letters ab", "letters ab ", "letters a-b", "letters ab;", "lettersab",
                    "letters " + ascii_lowercase[::-1], "letters " + ascii_lowercase + "a"):
            self.row_refused(0, row)

    def test_begin(self):
        for row in ("begin", "begin 0 0", "begin 0 1 2", "begin a", "begin0", "begin 0 ", " begin 0", "begin  0"):
            self.row_refused(1, row)

    def test_ends(self):
        for row in ("ends ", "ends  0", "ends 0 ", " ends", " ends 0", "ends 0  1", "ends a", "ends 0 a", "ends a 0",
                    "ends0", "ends .", "ends none", "ends 0,1"):
            self.row_refused(2, row)
        for row in ("ends", "ends 0", "ends 2 1 0", "ends 5 5", "ends 999"):
            self.row_read(2, row)

    def test_rooms(self):
        for at in (3, 4, 5):
            for row in ("room", "room 0", "room 0 1 2", "room 0 1 2 0", "room 0 a", "room a 0", "room  0 1",
                        "room 0  1", "room 0 1 ", " room 0 1", "room0 1", "room 01", "room ab", "room 0,1"):
                self.row_refused(at, row)
        self.refused("letters a\nbegin 0\nends\nroom 0 0", 3)
        self.refused("letters abc\nbegin 0\nends\nroom 0 0 0\nroom 0 0", 4)

    def test_numbers(self):
        for number in ("00", "01", "000", "001", "010", "1000", "9999", "0000", "12345", "-1", "+1", "-0", "+0", "1.",
                       "1.0", ".", "x", "0x1", "1_0", "1e1", "A", "1;", "'1'", "10a", "a10"):
            self.row_refused(1, "begin " + number)
            self.row_refused(2, "ends " + number)
            self.row_refused(2, "ends 0 " + number)
            self.row_refused(3, "room 0 " + number)
            self.row_refused(5, "room " + number + " 0")
        for number in ("0", "9", "10", "100", "999"):
            self.row_read(1, "begin " + number)
            self.row_read(2, "ends " + number)
            self.row_read(4, "room " + number + " " + number)

    def test_line_feeds(self):
        text = "\n".join(GOOD)
        self.refused("\n" + text, 0)
        self.refused(text + "\n", 6)
        self.refused(text + "\n\n", 6)
        for at in range(1, 6):
            self.refused("\n".join(GOOD[:at]) + "\n\n" + "\n".join(GOOD[at:]), at)
            self.refused("\n".join(GOOD[:at]) + "\n", at)
            self.refused("\n".join(GOOD[:at]) + " \n" + "\n".join(GOOD[at:]), at - 1)
        self.refused(" ; ".join(GOOD), 0)
        self.refused("letters\nab", 0)

    def test_the_first_row_that_cannot_stand_there(self):
        for first in range(6):
            for second in range(first + 1, 6):
                rows = list(GOOD)
                rows[first] = rows[first] + " x"
                rows[second] = "x"
                self.refused("\n".join(rows), first)
        self.refused("letters ab\nbegin 0 0\nends", 1)
        self.refused("letters ab\nbegin 0\nends x", 2)

    def test_refused_again(self):
        for again in range(2):
            self.refused("letters ab\nbegin 0\nends\nroom 0", 3)
            self.assertEqual(read_machine("letters a\nbegin 0\nends\nroom 0"), ("a", 0, (), ((0,),)))
