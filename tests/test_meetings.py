"""Walls: which clocks don't agree, and the turns at which all of them meet."""

import unittest
from itertools import product
from math import lcm

from hung import (
    BOTH_WAYS, full_wall, least_clash, meeting_walls, nested_meeting, never_walls, wall_of_clocks, wide_meeting,
    worn_wall,
)
from refusing import Refusing
from restfold.clocks import agree, both, is_right
from restfold.errors import BadTurn, Never
from restfold.walls import Wall
from things import WIDE, good_clocks, no_numbers, small_clocks


class Clash(unittest.TestCase):
    def test_none_of_no_clocks_and_of_one(self):
        self.assertIsNone(Wall().clash())
        for clock in good_clocks():
            self.assertIsNone(wall_of_clocks([clock]).clash())

    def test_of_two(self):
        clocks = small_clocks(6)
        for one, other in product(clocks, clocks):
            wall = wall_of_clocks([one, other])
            self.assertEqual(wall.clash(), None if agree(one, other) else (1, 2))

    def test_every_few_small_clocks(self):
        for clocks in product(small_clocks(4), repeat=4):
            wall = wall_of_clocks(clocks)
            self.assertEqual(wall.clash(), least_clash(wall.clocks()))

    def test_the_least_first_then_the_least_second(self):
        wall = wall_of_clocks([(5, 0), (4, 0), (3, 0), (6, 1), (3, 1), (8, 4), (2, 1), (4, 1)])
        self.assertEqual(wall.clash(), (2, 4))
        wall.take(4)
        self.assertEqual(wall.clash(), (2, 7))
        wall.take(2)
        self.assertEqual(wall.clash(), (3, 5))
        wall.take(3)
        self.assertEqual(wall.clash(), (6, 7))
        wall.turn_to(7, 0)
        self.assertEqual(wall.clash(), (6, 8))
        wall.turn_to(8, 2)
        self.assertEqual(wall.clash(), (6, 8))
        wall.turn_to(8, 0)
        self.assertIsNone(wall.clash())

    def test_the_last_two_of_many(self):
        clocks = [(3, 1)] * 30 + [(7, 2)] * 28 + [(WIDE, 0), (WIDE - 2, 1)]
        self.assertEqual(wall_of_clocks(clocks).clash(), (59, 60))
        self.assertIsNone(wall_of_clocks(clocks[:59]).clash())

    def test_a_tuple_of_two_numbers(self):
        told = wall_of_clocks([(2, 0), (2, 1)]).clash()
        self.assertEqual([type(told), type(told[0]), type(told[1])], [tuple, int, int])


class Fold(Refusing):
    def check_fold(self, wall):
        """Check the fold by looking at each clock of the wall."""
        told = wall.fold()
        self.assertEqual([type(told), type(told[0]), type(told[1])], [tuple, int, int])
        whole, first = told
        clocks = wall.clocks()
        self.assertEqual(whole, lcm(*[clock[0] for _, clock in clocks]))
        self.assertTrue(0 <= first < whole)
        for number, (hours, hour) in clocks:
            self.assertEqual((first % hours, wall.shows(number, first)), (hour, hour))
        return told

    def test_without_clocks(self):
        self.assertEqual(Wall().fold(), (1, 0))
        wall = wall_of_clocks([(12, 3)])
        wall.take(1)
        self.assertEqual(wall.fold(), (1, 0))

    def test_one_clock(self):
        for clock in good_clocks() + small_clocks(6):
            self.assertEqual(wall_of_clocks([clock]).fold(), clock)

    def test_two_clocks(self):
        clocks = small_clocks(7)
        for one, other in product(clocks, clocks):
            wall = wall_of_clocks([one, other])
            if agree(one, other):
                self.assertEqual(wall.fold(), both(one, other))
            else:
                error = self.refused(Never, wall.fold)
                self.assertEqual((error.one, error.other), (1, 2))

    def test_every_three_small_clocks(self):
        for clocks in product(small_clocks(6), repeat=3):
            whole = lcm(*[clock[0] for clock in clocks])
            seen = [turn for turn in range(whole) if all(turn % hours == hour for hours, hour in clocks)]
            wall = wall_of_clocks(clocks)
            if seen:
                self.assertEqual(wall.fold(), (whole, seen[0]))
                self.assertEqual(len(seen), 1)
            else:
                error = self.refused(Never, wall.fold)
                self.assertEqual((error.one, error.other), least_clash(wall.clocks()))

    def test_ordinary_ones(self):
        self.assertEqual(wall_of_clocks([(2, 1), (3, 2), (5, 4)]).fold(), (30, 29))
        self.assertEqual(wall_of_clocks([(3, 2), (5, 3), (7, 2)]).fold(), (105, 23))
        self.assertEqual(wall_of_clocks([(12, 3), (60, 51), (5, 1)]).fold(), (60, 51))
        self.assertEqual(wall_of_clocks([(6, 5), (10, 1), (15, 11)]).fold(), (30, 11))

    def test_sixty_wide_ones_with_little_in_common(self):
        secrets = [0, 1, -1, 7 ** 2000, 10 ** 1999 - 3, -(3 ** 4000)]
        for secret in secrets:
            wall = wall_of_clocks(wide_meeting(60, secret))
            whole, first = self.check_fold(wall)
            self.assertGreater(whole, 10 ** 1500)
            self.assertEqual(first, secret % whole)

    def test_wide_ones_the_other_way_about(self):
        clocks = wide_meeting(60, 7 ** 2000)
        self.assertEqual(wall_of_clocks(clocks).fold(), wall_of_clocks(clocks[::-1]).fold())

    def test_hours_that_go_into_one_another(self):
        for secret in [0, -1, 5 ** 100, 123456789]:
            wall = wall_of_clocks(nested_meeting(secret))
            whole, first = self.check_fold(wall)
            self.assertEqual(first, secret % whole)
        wall = wall_of_clocks([(2 ** at, 2 ** at - 1) for at in range(60)])
        self.assertEqual(wall.fold(), (2 ** 59, 2 ** 59 - 1))
        self.assertEqual(wall_of_clocks([(WIDE, WIDE - 1)] * 60).fold(), (WIDE, WIDE - 1))
        self.assertEqual(wall_of_clocks([(1, 0)] * 60).fold(), (1, 0))

    def test_each_many(self):
        for many in [1, 2, 3, 10, 59]:
            self.check_fold(wall_of_clocks(wide_meeting(many, 11 ** 500)))

    def test_never_with_the_two_of_clash(self):
        for clocks in product(small_clocks(3), repeat=4):
            wall = wall_of_clocks(clocks)
            clash = least_clash(wall.clocks())
            if clash is None:
                self.check_fold(wall)
                continue
            error = self.refused_and_unchanged(wall, Never, wall.fold)
            self.assertEqual((error.one, error.other), clash)
            self.assertEqual(wall.clash(), clash)

    def test_never_of_many_wide_ones(self):
        wall = wall_of_clocks(wide_meeting(59, 7 ** 2000) + [(WIDE, 2)])
        clash = least_clash(wall.clocks())
        error = self.refused_and_unchanged(wall, Never, wall.fold)
        self.assertEqual((error.one, error.other), clash)
        self.assertEqual(clash[0], 1)

    def test_never_where_a_later_fold_fails_first(self):
        # The two that don't agree are found by their numbers, not by which fold failed first.
        wall = wall_of_clocks([(4, 0), (3, 0), (3, 1), (2, 1)])
        error = self.refused(Never, wall.fold)
        self.assertEqual((error.one, error.other), (1, 4))

    def test_behind_takes_and_turn_to(self):
        wall = wall_of_clocks([(4, 0), (6, 1), (9, 4)])
        error = self.refused(Never, wall.fold)
        self.assertEqual((error.one, error.other), (1, 2))
        wall.take(2)
        self.assertEqual(wall.fold(), (36, 4))
        self.assertEqual(wall.put((6, 0)), 4)
        error = self.refused(Never, wall.fold)
        self.assertEqual((error.one, error.other), (3, 4))
        wall.turn_to(4, 4)
        self.assertEqual(wall.fold(), (36, 4))


class IsMet(Refusing):
    def test_every_few_small_clocks(self):
        for clocks in product(small_clocks(4), repeat=3):
            wall = wall_of_clocks(clocks)
            for turn in range(-13, 14):
                told = all(turn % hours == hour for hours, hour in clocks)
                self.assertIs(wall.is_met(turn), told)

    def test_without_clocks(self):
        for turn in BOTH_WAYS:
            self.assertIs(Wall().is_met(turn), True)

    def test_at_just_those_turns(self):
        for wall in meeting_walls():
            whole, first = wall.fold()
            for rounds in [-10 ** 40, -1, 0, 1, 2, 10 ** 40]:
                turn = first + rounds * whole
                self.assertIs(wall.is_met(turn), True)
                self.assertIs(wall.is_met(turn + 1), whole == 1)
                self.assertIs(wall.is_met(turn - 1), whole == 1)
            for turn in BOTH_WAYS:
                self.assertIs(wall.is_met(turn), all(is_right(clock, turn) for _, clock in wall.clocks()))

    def test_false_where_they_never_meet(self):
        for wall in never_walls():
            for turn in BOTH_WAYS:
                self.assertIs(wall.is_met(turn), False)

    def test_what_is_no_turn(self):
        for wall in [Wall(), worn_wall(), full_wall()] + never_walls():
            for at, thing in enumerate(no_numbers()):
                with self.subTest(at):
                    self.refused(BadTurn, wall.is_met, thing)
            self.refused_and_unchanged(wall, BadTurn, wall.is_met, True)


class NextAndLast(Refusing):
    def test_without_clocks(self):
        for turn in BOTH_WAYS:
            self.assertEqual((Wall().next_turn(turn), Wall().last_turn(turn)), (turn, turn))

    def test_ordinary_ones(self):
        wall = wall_of_clocks([(4, 1), (6, 3)])
        for turn, last, then in [
            (0, -3, 9), (8, -3, 9), (9, 9, 9), (10, 9, 21), (20, 9, 21), (21, 21, 21), (-3, -3, -3), (-4, -15, -3),
            (-2, -3, 9), (1200, 1197, 1209), (-1200, -1203, -1191),
        ]:
            self.assertEqual((wall.last_turn(turn), wall.next_turn(turn)), (last, then))

    def test_every_few_small_clocks_by_looking(self):
        for clocks in product(small_clocks(4), repeat=2):
            wall = wall_of_clocks(clocks)
            if wall.clash() is not None:
                continue
            met = [turn for turn in range(-60, 61) if all(turn % hours == hour for hours, hour in clocks)]
            for turn in range(-30, 31):
                self.assertEqual(wall.next_turn(turn), min(at for at in met if at >= turn))
                self.assertEqual(wall.last_turn(turn), max(at for at in met if at <= turn))

    def test_about_each_meeting(self):
        for wall in meeting_walls():
            whole, first = wall.fold()
            for rounds in [-10 ** 40, -2, -1, 0, 1, 2, 10 ** 40]:
                met = first + rounds * whole
                self.assertEqual((wall.next_turn(met), wall.last_turn(met)), (met, met))
                self.assertEqual((wall.next_turn(met + 1), wall.last_turn(met - 1)), (met + whole, met - whole))
                self.assertEqual(wall.next_turn(met - whole + 1), met)
                self.assertEqual(wall.last_turn(met + whole - 1), met)
                self.assertEqual(wall.next_turn(met - whole // 2), met)
                self.assertEqual(wall.last_turn(met + whole // 2), met)

    def test_far_either_way(self):
        for wall in meeting_walls():
            whole, _ = wall.fold()
            for turn in BOTH_WAYS:
                then, last = wall.next_turn(turn), wall.last_turn(turn)
                self.assertEqual((type(then), type(last)), (int, int))
                self.assertTrue(wall.is_met(then) and wall.is_met(last))
                self.assertTrue(turn <= then < turn + whole)
                self.assertTrue(turn - whole < last <= turn)

    def test_what_is_no_turn(self):
        for wall in [Wall(), worn_wall(), full_wall()] + never_walls():
            for ask in [wall.next_turn, wall.last_turn]:
                for at, thing in enumerate(no_numbers()):
                    with self.subTest((ask.__name__, at)):
                        self.refused(BadTurn, ask, thing)
                self.refused_and_unchanged(wall, BadTurn, ask, None)

    def test_never_with_the_two_of_clash(self):
        for wall in never_walls():
            for ask in [wall.next_turn, wall.last_turn]:
                for turn in [0, 5, -5, 10 ** 90, -(10 ** 90)]:
                    error = self.refused_and_unchanged(wall, Never, ask, turn)
                    self.assertEqual((error.one, error.other), least_clash(wall.clocks()))

    def test_behind_takes_and_turn_to(self):
        wall = wall_of_clocks([(4, 1), (6, 2), (5, 0)])
        self.refused(Never, wall.next_turn, 0)
        wall.turn_to(2, 3)
        self.assertEqual((wall.next_turn(0), wall.last_turn(0)), (45, -15))
        wall.take(3)
        self.assertEqual((wall.next_turn(0), wall.last_turn(0)), (9, -3))


if __name__ == "__main__":
    unittest.main()
