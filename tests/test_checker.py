import unittest

from spreadwords.checker import paper_holds
from spreadwords.least import least
from spreadwords.papers import paper_of
from spreadwords.wished import machine_of
from tests.plain import all_machines, chance_machines, first_sort, paper_so, rising_machines, swollen, texts_of

HAS_AB = ("ab", 0, (2,), ((1, 0), (1, 2), (2, 2)))
RANKS = (0, 1, 2)
MEETS = ((0, "a", "b", "a"), (1, "a", "b", "b"), (2, "a", "b", ""))
# Takes the texts in which b or c stands behind an a; its rows' words are of two letters, never of the third.
AFTER_A = ("abc", 0, (2,), ((1, 0, 0), (1, 2, 2), (2, 2, 2)))
AFTER_A_MEETS = ((0, "a", "b", "a"), (0, "a", "c", "a"), (0, "b", "c", ""),
                 (1, "a", "b", "b"), (1, "a", "c", "c"), (1, "b", "c", ""),
                 (2, "a", "b", ""), (2, "a", "c", ""), (2, "b", "c", ""))
ODD = ("ab", 0, (1,), ((1, 0), (0, 1)))
# Room 2 leads to no end, and both rooms of the ring lead to it.
RING_AND_MORE = ("abc", 0, (0,), ((1, 2, 0), (0, 1, 2), (2, 2, 2)))
BEGINS_WITH_A = ("ab", 0, (1,), ((1, 2), (1, 1), (2, 2)))
# The ways of a and b go apart at room 0, and end behind one letter more.
LATE = ("ab", 0, (2, 3), ((1, 2), (3, 1), (2, 4), (3, 3), (4, 4)))


def exchanged(row, place, thing):
    return row[:place] + (thing,) + row[place + 1:]


class Spread(unittest.TestCase):
    def holds(self, machine, ranks, meets):
        self.assertIs(paper_holds(machine, ("spread", ranks, meets)), True, (ranks, meets))

    def fails(self, machine, ranks, meets):
        self.assertIs(paper_holds(machine, ("spread", ranks, meets)), False, (ranks, meets))

    def test_it_holds(self):
        self.holds(HAS_AB, RANKS, MEETS)
        self.holds(AFTER_A, RANKS, AFTER_A_MEETS)
        self.holds(("a", 0, (1,), ((1,), (1,))), (0, 1), ())
        self.holds(("ab", 0, (), ((0, 0),)), (0,), ((0, "a", "b", ""),))

    def test_a_rank_too_few_and_too_many(self):
        for ranks in ((), (0,), (0, 1), (0, 1, 2, 3), (0, 1, 2, 2, 2), (0, 1, 2, -1)):
            self.fails(HAS_AB, ranks, MEETS)

    def test_ranks_that_do_not_rise(self):
        for ranks in ((0, 0, 2), (0, 1, 1), (0, 0, 0), (1, 0, 2), (0, 2, 1), (2, 1, 0), (-1, -2, -3), (0, 1, -2)):
            self.fails(HAS_AB, ranks, MEETS)

    def test_any_ranks_that_rise(self):
        for ranks in ((-1, 0, 1), (-1000, 0, 1000), (-3, -2, -1), (998, 999, 1000), (0, 500, 501)):
            self.holds(HAS_AB, ranks, MEETS)

    def test_ranks_may_be_alike_where_no_step_leads_on(self):
        # Rooms 1 and 2 lead to 3 alone.
        machine = machine_of("ab", ("and", ("has", "a"), ("has", "b")))
        self.assertEqual(machine[3], ((1, 2), (1, 3), (3, 2), (3, 3)))
        meets = ((0, "a", "b", "ab"), (1, "a", "b", "b"), (2, "a", "b", "a"), (3, "a", "b", "a"))
        self.holds(machine, (0, 1, 1, 2), meets)
        self.holds(machine, (0, 7, 1, 8), meets)
        self.fails(machine, (0, 1, 2, 2), meets)
        self.fails(machine, (0, 2, 1, 2), meets)
        self.fails(machine, (1, 1, 2, 3), meets)

    def test_a_row_lacks(self):
        for machine, meets in ((HAS_AB, MEETS), (AFTER_A, AFTER_A_MEETS)):
            for number in range(len(meets)):
                self.fails(machine, RANKS, meets[:number] + meets[number + 1:])
            self.fails(machine, RANKS, ())

    def test_rows_twice_and_in_another_order(self):
        for machine, meets in ((HAS_AB, MEETS), (AFTER_A, AFTER_A_MEETS)):
            self.holds(machine, RANKS, tuple(reversed(meets)))
            self.holds(machine, RANKS, meets[1:] + meets[:1])
            self.holds(machine, RANKS, meets * 2)
            self.holds(machine, RANKS, meets[:1] * 5 + meets)
        self.holds(HAS_AB, RANKS, MEETS + ((0, "a", "b", "ab"), (2, "a", "b", "aabb")))

    def test_each_row_that_stands_there_must_hold(self):
        # All rows that are needed are there, and one more.
        for row in ((3, "a", "b", ""), (-1, "a", "b", ""), (-3, "a", "b", "a"), (1000, "a", "b", ""),
                    (2, "a", "c", ""), (2, "c", "d", ""), (2, "b", "a", ""), (2, "a", "a", ""), (2, "b", "b", ""),
                    (2, "z", "z", ""), (2, "a", "b", "c"), (2, "a", "b", "abz"), (0, "a", "b", ""),
                    (0, "a", "b", "b"), (1, "a", "b", "")):
            self.fails(HAS_AB, RANKS, MEETS + (row,))
            self.fails(HAS_AB, RANKS, (row,) + MEETS)

    def test_a_row_with_one_thing_otherwise(self):
        for number, place, thing in ((0, 0, 3), (2, 0, -1), (0, 0, 2), (0, 1, "b"), (0, 2, "a"), (0, 1, "c"),
                                     (1, 2, "c"), (0, 3, ""), (0, 3, "b"), (0, 3, "c"), (1, 3, "a"), (2, 3, "z"),
                                     (0, 3, "bbb")):
            row = exchanged(MEETS[number], place, thing)
            self.fails(HAS_AB, RANKS, exchanged(MEETS, number, row))
        self.fails(HAS_AB, RANKS, exchanged(MEETS, 0, (0, "b", "a", "a")))
        self.fails(HAS_AB, RANKS, exchanged(MEETS, 2, (2, "b", "a", "")))

    def test_longer_words_by_which_the_same_room_is_come_to(self):
        for word in ("aa", "ab", "bab", "abab", "b" * 20 + "ab", "ab" * 15):
            self.holds(HAS_AB, RANKS, exchanged(MEETS, 0, (0, "a", "b", word)))
            self.holds(HAS_AB, RANKS, exchanged(MEETS, 2, (2, "a", "b", word)))

    def test_a_word_of_the_machines_third_letter(self):
        # These words do meet, but not by the row's two letters alone.
        for number, word in ((0, "cac"), (0, "ac"), (2, "a"), (5, "a"), (6, "c"), (7, "b"), (8, "bca")):
            self.fails(AFTER_A, RANKS, exchanged(AFTER_A_MEETS, number, AFTER_A_MEETS[number][:3] + (word,)))
        for number, word in ((0, "bab"), (2, "c"), (5, "bc"), (8, "cb")):
            self.holds(AFTER_A, RANKS, exchanged(AFTER_A_MEETS, number, AFTER_A_MEETS[number][:3] + (word,)))

    def test_one_letter(self):
        machine = ("a", 0, (1,), ((1,), (1,)))
        self.holds(machine, (4, 5), ())
        self.fails(machine, (5, 5), ())
        for row in ((1, "a", "a", ""), (1, "a", "b", ""), (1, "b", "a", "")):
            self.fails(machine, (0, 1), (row,))

    def test_the_rooms_are_those_of_the_least_machine(self):
        more = swollen(HAS_AB)
        self.assertEqual(len(more[3]), 7)
        self.holds(more, RANKS, MEETS)
        self.fails(more, tuple(range(7)), MEETS)
        self.fails(more, RANKS, MEETS + ((3, "a", "b", "ab"),))
        # Otherwise numbered: the begin is room 2.
        turned = ("ab", 2, (0,), ((0, 0), (1, 0), (1, 2)))
        self.assertEqual(least(turned), HAS_AB)
        self.holds(turned, RANKS, MEETS)
        self.fails(turned, (2, 1, 0), MEETS)

    def test_more_letters_than_three_in_it(self):
        self.fails(HAS_AB, RANKS, MEETS + ((0, "w", "x", "yz"),))
        self.fails(AFTER_A, RANKS, AFTER_A_MEETS + ((0, "d", "e", "fgh"),))
        self.fails(AFTER_A, RANKS, exchanged(AFTER_A_MEETS, 0, (0, "a", "b", "adefg")))

    def test_machines_of_which_none_holds(self):
        for ranks in ((0, 1), (1, 0), (0, 0)):
            self.fails(ODD, ranks, ((0, "a", "b", ""), (1, "a", "b", "")))
        for word in texts_of("ab", 5):
            self.fails(BEGINS_WITH_A, RANKS, ((0, "a", "b", word), (1, "a", "b", ""), (2, "a", "b", "")))


class Ring(unittest.TestCase):
    def holds(self, machine, room, u, v):
        self.assertIs(paper_holds(machine, ("ring", room, u, v)), True, (room, u, v))

    def fails(self, machine, room, u, v):
        self.assertIs(paper_holds(machine, ("ring", room, u, v)), False, (room, u, v))

    def test_it_holds(self):
        self.holds(ODD, 0, "a", "a")
        self.holds(RING_AND_MORE, 0, "a", "a")

    def test_begun_at_its_other_room_and_gone_round_once_more(self):
        for machine in (ODD, RING_AND_MORE):
            self.holds(machine, 1, "a", "a")
            self.holds(machine, 0, "a", "aaa")
            self.holds(machine, 0, "aaa", "a")
            self.holds(machine, 1, "a" * 29, "a" * 29)
        self.holds(ODD, 0, "ba", "bab")

    def test_a_room_that_is_not_there(self):
        for room in (2, -1, -2, 1000, -1000):
            self.fails(ODD, room, "a", "a")
        for room in (3, -1, -2, -3):
            self.fails(RING_AND_MORE, room, "a", "a")

    def test_u_leads_back_to_the_room_itself(self):
        for u in ("b", "aa", "bb", "abab"):
            self.fails(ODD, 0, u, u)
            self.fails(ODD, 0, u, "")
            self.fails(ODD, 1, u, "aa")

    def test_v_does_not_lead_back(self):
        for v in ("b", "aa", "aba", "bb"):
            self.fails(ODD, 0, "a", v)
        self.fails(RING_AND_MORE, 0, "b", "a")
        self.fails(RING_AND_MORE, 0, "a", "ca")
        self.fails(HAS_AB, 0, "a", "b")
        self.fails(HAS_AB, 0, "ab", "ba")

    def test_without_letters(self):
        self.fails(ODD, 0, "", "")
        self.fails(ODD, 0, "a", "")
        self.fails(ODD, 0, "", "a")
        self.fails(ODD, 0, "", "aa")

    def test_letters_that_the_machine_lacks(self):
        for u, v in (("c", "a"), ("a", "c"), ("ac", "a"), ("a", "az"), ("wxyz", "a"), ("z", "z")):
            self.fails(ODD, 0, u, v)

    def test_the_rooms_are_those_of_the_least_machine(self):
        more = swollen(ODD)
        self.holds(more, 0, "a", "a")
        self.holds(more, 1, "a", "a")
        for room in (2, 3, 4):
            self.fails(more, room, "a", "a")
        # The machine's own rooms 0 and 1 are alike.
        self.fails(("a", 0, (0, 1), ((1,), (0,))), 0, "a", "a")
        # No text leads to the ring of rooms 1 and 2.
        self.fails(("a", 0, (1,), ((0,), (2,), (1,))), 1, "a", "a")
        self.fails(("a", 0, (1,), ((0,), (2,), (1,))), 0, "a", "a")


class Apart(unittest.TestCase):
    def holds(self, machine, room, x, y, w):
        self.assertIs(paper_holds(machine, ("apart", room, x, y, w)), True, (room, x, y, w))

    def fails(self, machine, room, x, y, w):
        self.assertIs(paper_holds(machine, ("apart", room, x, y, w)), False, (room, x, y, w))

    def test_it_holds(self):
        self.holds(BEGINS_WITH_A, 0, "a", "b", "")
        self.holds(LATE, 0, "a", "b", "ab")

    def test_exchanged(self):
        self.holds(BEGINS_WITH_A, 0, "b", "a", "")
        self.holds(LATE, 0, "b", "a", "ab")

    def test_longer_words(self):
        for word in ("a", "b", "ab", "ab" * 15):
            self.holds(BEGINS_WITH_A, 0, "a", "b", word)
        self.holds(LATE, 0, "a", "b", "aabba")

    def test_alike_and_not_of_the_machine(self):
        for x, y in (("a", "a"), ("b", "b"), ("a", "c"), ("c", "a"), ("c", "d"), ("z", "z")):
            self.fails(BEGINS_WITH_A, 0, x, y, "")

    def test_a_word_of_another_letter(self):
        for word in ("c", "abc", "z", "wxyz"):
            self.fails(BEGINS_WITH_A, 0, "a", "b", word)
        # All letters stay in rooms 1 and 2, but c is none of the row's two.
        three = ("abc", 0, (1,), ((1, 2, 0), (1, 1, 1), (2, 2, 2)))
        self.holds(three, 0, "a", "b", "ab")
        self.fails(three, 0, "a", "b", "c")
        self.fails(three, 0, "a", "b", "acb")

    def test_rooms_that_are_alike(self):
        for room in (1, 2):
            self.fails(BEGINS_WITH_A, room, "a", "b", "")
        self.fails(HAS_AB, 0, "a", "b", "ab")
        self.fails(HAS_AB, 2, "a", "b", "")
        # Of the machine's own rooms 1 and 2 the same is said.
        self.fails(("ab", 0, (1, 2), ((1, 2), (1, 1), (2, 2))), 0, "a", "b", "")

    def test_a_room_from_which_a_letter_leads_away(self):
        for word in ("", "a", "b", "aa", "bb"):
            self.fails(LATE, 0, "a", "b", word)
        self.fails(HAS_AB, 0, "a", "b", "")
        # Here just one of four steps leads away, each in its turn.
        for row, place in ((1, 0), (1, 1), (2, 0), (2, 1)):
            steps = [[1, 2, 0], [1, 1, 0], [2, 2, 0], [3, 3, 3]]
            steps[row][place] = 3
            machine = ("abc", 0, (1, 3), tuple(tuple(one) for one in steps))
            self.assertEqual(len(least(machine)[3]), 4)
            self.fails(machine, 0, "a", "b", "")

    def test_the_third_letter_may_lead_away(self):
        three = ("abc", 0, (1,), ((1, 2, 0), (1, 1, 0), (2, 2, 0)))
        self.holds(three, 0, "a", "b", "")
        self.holds(three, 0, "b", "a", "ba")
        self.fails(three, 0, "a", "c", "")
        self.fails(three, 0, "b", "c", "")

    def test_a_room_that_is_not_there(self):
        for room in (3, -1, -3, 1000, -1000):
            self.fails(BEGINS_WITH_A, room, "a", "b", "")

    def test_the_rooms_are_those_of_the_least_machine(self):
        more = swollen(BEGINS_WITH_A)
        self.holds(more, 0, "a", "b", "")
        for room in (3, 4, 5, 6):
            self.fails(more, room, "a", "b", "")
        turned = ("ab", 2, (0,), ((0, 0), (1, 1), (0, 1)))
        self.assertEqual(least(turned), BEGINS_WITH_A)
        self.holds(turned, 0, "a", "b", "")
        self.fails(turned, 2, "a", "b", "")

    def test_one_letter(self):
        self.fails(("a", 0, (1,), ((1,), (1,))), 0, "a", "a", "")
        self.fails(("a", 0, (1,), ((1,), (1,))), 0, "a", "b", "")


def otherwise(paper):
    """The paper with one thing otherwise, in many ways."""
    if paper[0] == "spread":
        ranks, meets = paper[1:]
        for place in range(len(ranks)):
            for rank in (ranks[place] - 1, ranks[place] + 1, ranks[place] + 2, -5, 1000):
                yield ("spread", exchanged(ranks, place, rank), meets)
            yield ("spread", ranks[:place] + ranks[place + 1:], meets)
        yield ("spread", ranks + (50,), meets)
        for number, row in enumerate(meets):
            yield ("spread", ranks, meets[:number] + meets[number + 1:])
            yield ("spread", ranks, meets + (row,))
            for place, things in enumerate(((row[0] - 1, row[0] + 1, -1), "abcd", "abcd",
                                            (row[3] + "a", row[3] + "b", "d", row[3][1:]))):
                for thing in things:
                    yield ("spread", ranks, exchanged(meets, number, exchanged(row, place, thing)))
                    yield ("spread", ranks, meets + (exchanged(row, place, thing),))
    else:
        for room in range(-2, 7):
            yield exchanged(paper, 1, room)
        for place in range(2, len(paper)):
            for thing in ("a", "b", "c", "d", paper[place] + "a", "b" + paper[place], paper[place][1:]):
                if paper[0] == "ring" or place == 4 or len(thing) == 1:
                    yield exchanged(paper, place, thing)


class Holds(unittest.TestCase):
    def test_told_papers_with_one_thing_otherwise(self):
        found = {}
        for letters in ("a", "ab", "abc"):
            for rooms in (1, 2, 3, 4):
                machines = list(chance_machines(letters, rooms, 6, 30)) + list(rising_machines(letters, rooms, 12, 31))
                for machine in machines:
                    own = least(machine)
                    paper = paper_of(machine)
                    for other in otherwise(paper):
                        wanted = paper_so(own, other)
                        self.assertIs(paper_holds(machine, other), wanted, (machine, other))
                        found[(paper[0], wanted)] = True
        self.assertEqual(len(found), 6)

    def test_none_of_both_sorts(self):
        words = {letters: list(texts_of(letters, 3)) for letters in ("a", "ab", "abc")}
        for machine in list(all_machines("ab", 2)) + list(rising_machines("abc", 4, 30, 32)) + \
                list(rising_machines("ab", 5, 60, 33)) + list(chance_machines("ab", 3, 40, 34)):
            letters = machine[0]
            rooms = range(len(machine[3]))
            others = [("ring", room, u, v) for room in rooms for u in letters for v in words[letters]]
            others += [("apart", room, x, y, w) for room in rooms for x in letters for y in letters if x < y
                       for w in texts_of(x + y, 4)]
            held = any(paper_holds(machine, paper) for paper in others)
            self.assertEqual(held, paper_of(machine)[0] != "spread", machine)
            self.assertEqual(held, not first_sort(least(machine)), machine)

    def test_no_ranks_and_words_for_machines_of_the_other_sorts(self):
        for machine in all_machines("ab", 2):
            paper = paper_of(machine)
            if paper[0] == "spread":
                continue
            for ranks in ((0, 1), (1, 0), (0, 0)):
                for here in texts_of("ab", 2):
                    for there in texts_of("ab", 2):
                        meets = ((0, "a", "b", here), (1, "a", "b", there))
                        self.assertIs(paper_holds(machine, ("spread", ranks, meets)), False)

    def test_asked_again(self):
        paper = ("spread", RANKS, MEETS)
        self.assertIs(paper_holds(HAS_AB, paper), True)
        self.assertIs(paper_holds(ODD, ("ring", 0, "a", "a")), True)
        self.assertIs(paper_holds(HAS_AB, ("ring", 0, "a", "a")), False)
        self.assertIs(paper_holds(HAS_AB, paper), True)
        self.assertEqual(paper, ("spread", (0, 1, 2), ((0, "a", "b", "a"), (1, "a", "b", "b"), (2, "a", "b", ""))))
