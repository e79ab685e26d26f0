"""Clocks: what is one, what it shows, when two agree and where they meet."""

import copy
import inspect
import unittest
from math import gcd, lcm

from restfold import clocks
from restfold.clocks import agree, both, is_clock, is_right, shows, witness
from restfold.errors import BadClock, BadTurn, FoldError
from refusing import Refusing
from things import WIDE, good_clocks, no_clocks, no_numbers, small_clocks

TURNS = [0, 1, 2, 11, 12, 13, 59, 60, 1000, WIDE - 1, WIDE, WIDE + 1, 10 ** 90 + 7, 7 ** 700]


class Interface(unittest.TestCase):
    def test_names_arguments_and_file(self):
        listed = {
            "is_clock": ["thing"], "shows": ["clock", "turn"], "is_right": ["clock", "turn"],
            "agree": ["one", "other"], "witness": ["one", "other"], "both": ["one", "other"],
        }
        for name, args in listed.items():
            with self.subTest(name):
                told = getattr(clocks, name)
                self.assertTrue(inspect.isfunction(told))
                self.assertEqual(told.__module__, "restfold.clocks")
                self.assertEqual(list(inspect.signature(told).parameters), args)

    def test_arguments_by_name(self):
        self.assertIs(is_clock(thing=(12, 3)), True)
        self.assertEqual(shows(turn=15, clock=(12, 3)), 3)
        self.assertIs(is_right(turn=15, clock=(12, 3)), True)
        self.assertIs(agree(other=(4, 1), one=(6, 3)), True)
        self.assertEqual(witness(other=(6, 3), one=(9, 7)), (3, 1, 0))
        self.assertEqual(both(other=(4, 1), one=(6, 3)), (12, 9))


class IsClock(unittest.TestCase):
    def test_clocks(self):
        for clock in good_clocks() + small_clocks(13):
            with self.subTest(clock):
                self.assertIs(is_clock(clock), True)

    def test_edges_of_hours(self):
        for hours, told in [(-1, False), (0, False), (1, True), (2, True)]:
            self.assertIs(is_clock((hours, 0)), told)
        for hours, told in [(WIDE - 1, True), (WIDE, True), (WIDE + 1, False)]:
            self.assertIs(is_clock((hours, 0)), told)
            self.assertIs(is_clock((hours, hours - 1)), told)

    def test_edges_of_hour(self):
        for hours in [1, 2, 12, WIDE - 1, WIDE]:
            for hour, told in [(-1, False), (0, True), (hours - 1, True), (hours, False), (hours + 1, False)]:
                with self.subTest((hours, hour)):
                    self.assertIs(is_clock((hours, hour)), told)

    def test_no_clocks(self):
        for at, thing in enumerate(no_clocks()):
            with self.subTest(at):
                self.assertIs(is_clock(thing), False)

    def test_true_and_false_are_no_numbers(self):
        for thing in [(True, 0), (True, False), (1, False), (2, True), (2, False), (False, False)]:
            self.assertIs(is_clock(thing), False)

    def test_a_class_is_no_clock(self):
        for thing in [int, tuple, BadClock, (int, int), is_clock]:
            self.assertIs(is_clock(thing), False)


class Shows(Refusing):
    def test_ordinary_turns(self):
        told = [(0, 0), (1, 1), (3, 3), (11, 11), (12, 0), (15, 3), (25, 1), (1200, 0), (1207, 7)]
        for turn, number in told:
            self.assertEqual(shows((12, 3), turn), number)

    def test_below_nought(self):
        for turn, number in [(-1, 11), (-9, 3), (-11, 1), (-12, 0), (-13, 11), (-1200, 0), (-1201, 11)]:
            self.assertEqual(shows((12, 3), turn), number)

    def test_one_hour(self):
        for turn in TURNS:
            self.assertEqual((shows((1, 0), turn), shows((1, 0), -turn)), (0, 0))

    def test_it_is_a_number_of_the_clock_that_differs_by_rounds(self):
        for clock in good_clocks():
            for turn in TURNS + [-turn for turn in TURNS]:
                with self.subTest((clock, turn)):
                    told = shows(clock, turn)
                    self.assertIs(type(told), int)
                    self.assertTrue(0 <= told < clock[0])
                    self.assertEqual((turn - told) % clock[0], 0)

    def test_very_wide(self):
        self.assertEqual(shows((WIDE, 5), 10 ** 90 + 7), 7)
        self.assertEqual(shows((WIDE, 5), -(10 ** 90) - 7), WIDE - 7)
        self.assertEqual(shows((WIDE, WIDE - 1), WIDE), 0)
        self.assertEqual(shows((WIDE, 0), WIDE - 1), WIDE - 1)

    def test_a_round_later_the_same(self):
        for clock in good_clocks():
            for turn in [-5, 0, 3, 10 ** 60]:
                for rounds in [-10 ** 40, -1, 1, 2, 10 ** 40]:
                    self.assertEqual(shows(clock, turn + rounds * clock[0]), shows(clock, turn))

    def test_the_hour_it_wants_does_not_count(self):
        for hour in range(12):
            self.assertEqual(shows((12, hour), 17), 5)

    def test_no_clock(self):
        for at, thing in enumerate(no_clocks()):
            with self.subTest(at):
                self.refused(BadClock, shows, thing, 3)

    def test_no_turn(self):
        for at, thing in enumerate(no_numbers()):
            with self.subTest(at):
                self.refused(BadTurn, shows, (12, 3), thing)

    def test_the_clock_is_refused_first(self):
        for clock in no_clocks():
            for turn in [True, None, "3", [3], (3,), {}]:
                self.refused(BadClock, shows, clock, turn)


class IsRight(Refusing):
    def test_every_small_clock(self):
        for clock in small_clocks(9):
            for turn in range(-30, 31):
                with self.subTest((clock, turn)):
                    self.assertIs(is_right(clock, turn), (turn - clock[1]) % clock[0] == 0)

    def test_one_hour_is_always_right(self):
        for turn in TURNS:
            self.assertIs(is_right((1, 0), turn), True)
            self.assertIs(is_right((1, 0), -turn), True)

    def test_once_a_round(self):
        for hours, hour in good_clocks():
            for rounds in [-10 ** 40, -2, -1, 0, 1, 2, 10 ** 40]:
                turn = hour + rounds * hours
                self.assertIs(is_right((hours, hour), turn), True)
                self.assertIs(is_right((hours, hour), turn + 1), hours == 1)
                self.assertIs(is_right((hours, hour), turn - 1), hours == 1)

    def test_no_clock(self):
        for at, thing in enumerate(no_clocks()):
            with self.subTest(at):
                self.refused(BadClock, is_right, thing, 3)

    def test_no_turn(self):
        for at, thing in enumerate(no_numbers()):
            with self.subTest(at):
                self.refused(BadTurn, is_right, (12, 3), thing)

    def test_the_clock_is_refused_first(self):
        for clock in no_clocks():
            for turn in [True, None, "3", [3], (3,), {}]:
                self.refused(BadClock, is_right, clock, turn)


def wide_pairs():
    """Pairs of wide clocks, with much, little and nothing in common."""
    return [
        ((WIDE, 0), (WIDE, 0)), ((WIDE, 1), (WIDE, 1)), ((WIDE, 0), (WIDE, 1)), ((WIDE, WIDE - 1), (WIDE, 0)),
        ((WIDE, WIDE - 1), (WIDE - 1, 0)), ((WIDE, 0), (WIDE - 1, WIDE - 2)), ((WIDE, 5), (WIDE - 1, 5)),
        ((WIDE, 7), (1, 0)), ((WIDE, WIDE - 1), (10, 9)), ((WIDE, WIDE - 1), (10, 8)),
        ((WIDE, 123456789), (WIDE // 2, 123456789)), ((WIDE, 3), (WIDE // 5, 3 + WIDE // 25)),
        ((WIDE, 1), (WIDE - 2, 3)), ((WIDE, 1), (WIDE - 2, 2)), ((WIDE, 2), (6 ** 38, 2 + 2 ** 30)),
        ((2 ** 99, 2 ** 98), (3 ** 62, 3 ** 61)), ((2 ** 99, 1), (2 ** 98, 1)), ((2 ** 99, 1), (2 ** 98, 0)),
        ((10 ** 15 * 7, 12), (10 ** 15 * 11, 12 + 10 ** 15)), ((10 ** 15 * 7, 12), (10 ** 15 * 11, 13)),
    ]


class Two(Refusing):
    def first_seen(self, one, other):
        """The least turn from 0 on at which both are seen to be right, None if there is none."""
        for turn in range(lcm(one[0], other[0])):
            if turn % one[0] == one[1] and turn % other[0] == other[1]:
                return turn
        return None

    def all_pairs(self):
        small = small_clocks(8)
        far = [((60, 59), (24, 23)), ((60, 59), (24, 22)), ((36, 5), (48, 29)), ((97, 50), (89, 3))]
        return [(one, other) for one in small for other in small] + far + [(two, one) for one, two in far]

    def test_every_small_pair(self):
        for one, other in self.all_pairs():
            with self.subTest((one, other)):
                first = self.first_seen(one, other)
                self.assertIs(agree(one, other), first is not None)
                fold = None if first is None else (lcm(one[0], other[0]), first)
                self.assertEqual(both(one, other), fold)

    def test_ordinary_folds(self):
        self.assertEqual(both((2, 1), (3, 2)), (6, 5))
        self.assertEqual(both((4, 1), (6, 3)), (12, 9))
        self.assertEqual(both((12, 3), (12, 3)), (12, 3))
        self.assertEqual(both((12, 7), (4, 3)), (12, 7))
        self.assertEqual(both((4, 3), (12, 7)), (12, 7))
        self.assertEqual(both((1, 0), (12, 7)), (12, 7))
        self.assertEqual(both((1, 0), (1, 0)), (1, 0))
        self.assertIsNone(both((4, 1), (6, 2)))
        self.assertIsNone(both((12, 3), (12, 4)))
        self.assertIsNone(both((12, 7), (4, 2)))

    def test_ordinary_agreement(self):
        for one, other, told in [
            ((4, 1), (6, 3), True), ((4, 1), (6, 2), False), ((12, 3), (12, 4), False), ((5, 4), (7, 1), True),
            ((12, 7), (4, 3), True), ((12, 7), (4, 2), False), ((1, 0), (12, 7), True), ((12, 3), (12, 3), True),
        ]:
            self.assertIs(agree(one, other), told)
            self.assertIs(agree(other, one), told)

    def test_ordinary_witnesses(self):
        self.assertEqual(witness((4, 1), (6, 3)), (2, 1, 1))
        self.assertEqual(witness((4, 1), (6, 2)), (2, 1, 0))
        self.assertEqual(witness((6, 2), (4, 1)), (2, 0, 1))
        self.assertEqual(witness((9, 7), (6, 5)), (3, 1, 2))
        self.assertEqual(witness((12, 7), (4, 3)), (4, 3, 3))
        self.assertEqual(witness((5, 4), (7, 6)), (1, 0, 0))
        self.assertEqual(witness((12, 7), (12, 4)), (12, 7, 4))
        self.assertEqual(witness((WIDE, 7), (WIDE, WIDE - 1)), (WIDE, 7, WIDE - 1))
        self.assertEqual(witness((WIDE, WIDE - 1), (WIDE - 1, 5)), (1, 0, 0))

    def test_a_witness_is_three_numbers(self):
        for one, other in self.all_pairs() + wide_pairs():
            told = witness(one, other)
            self.assertIs(type(told), tuple)
            self.assertEqual([type(number) for number in told], [int, int, int])
            common = gcd(one[0], other[0])
            self.assertEqual(told, (common, one[1] % common, other[1] % common))
            self.assertEqual(told[1] == told[2], agree(one, other))

    def test_wide_folds_by_looking_at_both_clocks(self):
        pairs = wide_pairs()
        for one, other in pairs + [(other, one) for one, other in pairs]:
            with self.subTest((one, other)):
                met = (one[1] - other[1]) % gcd(one[0], other[0]) == 0
                self.assertIs(agree(one, other), met)
                fold = both(one, other)
                if not met:
                    self.assertIsNone(fold)
                    continue
                self.assertIs(type(fold), tuple)
                self.assertEqual([type(number) for number in fold], [int, int])
                whole, first = fold
                self.assertEqual(whole, lcm(one[0], other[0]))
                self.assertTrue(0 <= first < whole)
                self.assertTrue(is_right(one, first) and is_right(other, first))
                self.assertTrue(is_right(one, first - 3 * whole) and is_right(other, first - 3 * whole))

    def test_either_way_about(self):
        for one, other in self.all_pairs() + wide_pairs():
            self.assertEqual(both(one, other), both(other, one))
            self.assertIs(agree(one, other), agree(other, one))
            common, rest, others = witness(one, other)
            self.assertEqual(witness(other, one), (common, others, rest))

    def test_a_clock_with_itself(self):
        for clock in good_clocks() + small_clocks(6):
            self.assertIs(agree(clock, clock), True)
            self.assertEqual(both(clock, clock), clock)
            self.assertEqual(witness(clock, clock), (clock[0], clock[1], clock[1]))

    def test_with_a_clock_of_one_hour(self):
        for clock in good_clocks():
            self.assertEqual(both((1, 0), clock), clock)
            self.assertEqual(both(clock, (1, 0)), clock)
            self.assertEqual(witness(clock, (1, 0)), (1, 0, 0))

    def test_no_clock_of_either(self):
        for ask in [agree, witness, both]:
            for at, thing in enumerate(no_clocks()):
                with self.subTest((ask.__name__, at)):
                    self.refused(BadClock, ask, thing, (12, 3))
                    self.refused(BadClock, ask, (12, 3), thing)
                    self.refused(BadClock, ask, (1, 0), thing)
                    self.refused(BadClock, ask, thing, thing)


class Unchanged(unittest.TestCase):
    def ask_all(self, clock, other, turn):
        for ask, args in [
            (is_clock, (clock,)), (is_clock, (turn,)), (shows, (clock, turn)), (is_right, (clock, turn)),
            (agree, (clock, other)), (witness, (clock, other)), (both, (clock, other)),
            (agree, (other, clock)), (witness, (other, clock)), (both, (other, clock)),
        ]:
            try:
                ask(*args)
            except FoldError:
                continue

    def test_what_is_handed_in_stays_as_it_was(self):
        handed = [
            [12, 3], [], {12: 3}, {}, {12, 3}, [[12, 3], [4, 1]], (12, [3]), ([12], 3), ({}, {}), bytearray(b"ab"),
            (12, 3), (WIDE, 5), (12, 3, 0), 7, "12 3",
        ]
        for thing in handed:
            before = copy.deepcopy(thing)
            self.ask_all(thing, (12, 3), 5)
            self.ask_all((12, 3), thing, 5)
            self.ask_all((12, 3), (4, 1), thing)
            self.assertEqual(thing, before)
            self.assertIs(type(thing), type(before))

    def test_nothing_is_read_off_an_iterator(self):
        numbers = iter((12, 3))
        self.ask_all(numbers, (12, 3), numbers)
        self.assertEqual(list(numbers), [12, 3])

    def test_the_same_again_whatever_was_asked_between(self):
        asked = [((4, 1), (6, 3)), ((4, 1), (6, 2)), ((WIDE, 7), (WIDE - 1, 7))]
        before = [(both(*pair), witness(*pair), agree(*pair), shows(pair[0], 99)) for pair in asked]
        for thing in [None, [12, 3], (12, 12), True]:
            self.ask_all(thing, thing, thing)
        after = [(both(*pair), witness(*pair), agree(*pair), shows(pair[0], 99)) for pair in asked]
        self.assertEqual(before, after)


if __name__ == "__main__":
    unittest.main()
