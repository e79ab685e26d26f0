"""Walls: their clocks and numbers, and what is refused."""

import copy
import inspect
import unittest

from hung import BOTH_WAYS, full_wall, meeting_walls, never_walls, wall_of_clocks, worn_wall
from refusing import MOST_CLOCKS, Refusing, next_number, state
from restfold import walls
from restfold.clocks import shows
from restfold.errors import BadClock, BadTurn, BadWall, FoldError, Never, NoClock, TooMany
from restfold.texts import wall_of
from restfold.walls import Wall
from things import WIDE, good_clocks, no_clocks, no_numbers, no_walls

ODD_NUMBERS = [0, -1, -2, 10 ** 9, 10 ** 9 + 1, WIDE, -WIDE, 10 ** 90]


class Interface(unittest.TestCase):
    LISTED = {
        "put": ["clock"], "take": ["number"], "turn_to": ["number", "hour"], "lay": ["other"], "clocks": [],
        "shows": ["number", "turn"], "clash": [], "copied": [], "fold": [], "is_met": ["turn"],
        "next_turn": ["turn"], "last_turn": ["turn"],
    }

    def test_the_class_is_defined_in_walls(self):
        self.assertIs(walls.Wall, Wall)
        self.assertEqual((Wall.__module__, Wall.__name__), ("restfold.walls", "Wall"))
        self.assertEqual(len(inspect.signature(Wall).parameters), 0)

    def test_each_method_is_in_the_body_of_the_class(self):
        for name, args in self.LISTED.items():
            with self.subTest(name):
                told = vars(Wall)[name]
                self.assertTrue(inspect.isfunction(told))
                self.assertEqual(list(inspect.signature(told).parameters)[1:], args)

    def test_arguments_by_name(self):
        wall, other = Wall(), wall_of_clocks([(4, 1)])
        self.assertEqual(wall.put(clock=(12, 3)), 1)
        self.assertIsNone(wall.turn_to(hour=5, number=1))
        self.assertIsNone(wall.lay(other=other))
        self.assertEqual(wall.shows(turn=14, number=1), 2)
        self.assertIs(wall.is_met(turn=5), True)
        self.assertEqual((wall.next_turn(turn=6), wall.last_turn(turn=4)), (17, -7))
        self.assertEqual(wall.take(number=1), (12, 5))

    def test_without_clocks_at_first(self):
        self.assertEqual(Wall().clocks(), [])

    def test_each_wall_has_its_own_clocks(self):
        one, other = Wall(), Wall()
        one.put((12, 3))
        self.assertEqual(other.clocks(), [])
        self.assertEqual(other.put((4, 1)), 1)
        self.assertEqual(one.clocks(), [(1, (12, 3))])


class Put(Refusing):
    def test_numbers_from_one_on(self):
        wall = Wall()
        for at, clock in enumerate(good_clocks(), 1):
            number = wall.put(clock)
            self.assertIs(type(number), int)
            self.assertEqual(number, at)
        self.assertEqual(wall.clocks(), list(enumerate(good_clocks(), 1)))

    def test_the_same_clock_again(self):
        wall = Wall()
        self.assertEqual([wall.put((12, 3)) for _ in range(3)], [1, 2, 3])
        self.assertEqual(wall.clocks(), [(1, (12, 3)), (2, (12, 3)), (3, (12, 3))])

    def test_a_number_is_never_given_again(self):
        wall = wall_of_clocks([(12, 3), (4, 1), (5, 2)])
        wall.take(3)
        self.assertEqual(wall.put((7, 0)), 4)
        wall.take(1)
        wall.take(2)
        wall.take(4)
        self.assertEqual(wall.clocks(), [])
        self.assertEqual(wall.put((8, 0)), 5)
        self.assertEqual(wall.clocks(), [(5, (8, 0))])

    def test_put_and_taken_many_times(self):
        wall = Wall()
        for number in range(1, 200):
            self.assertEqual(wall.put((number, number - 1)), number)
            self.assertEqual(wall.take(number), (number, number - 1))
        self.assertEqual(wall.clocks(), [])

    def test_what_is_put_is_not_kept_as_it_is(self):
        hours, hour = 12, 3
        clock = (hours, hour)
        wall = Wall()
        wall.put(clock)
        told = wall.take(1)
        self.assertEqual(told, clock)
        self.assertIsNot(told, clock)

    def test_sixty_at_most(self):
        wall = Wall()
        for number in range(1, MOST_CLOCKS + 1):
            self.assertEqual(wall.put((number, 0)), number)
        self.assertEqual(len(wall.clocks()), 60)
        for _ in range(2):
            self.refused_and_unchanged(wall, TooMany, wall.put, (12, 3))

    def test_good_again_behind_take(self):
        wall = full_wall()
        self.refused(TooMany, wall.put, (12, 3))
        wall.take(60)
        self.assertEqual(wall.put((12, 3)), 61)
        self.refused_and_unchanged(wall, TooMany, wall.put, (12, 3))
        wall.take(1)
        wall.take(30)
        self.assertEqual((wall.put((4, 1)), wall.put((4, 1))), (62, 63))
        self.refused_and_unchanged(wall, TooMany, wall.put, (12, 3))

    def test_no_clock(self):
        for wall in [Wall(), worn_wall()]:
            number = next_number(wall)
            for at, thing in enumerate(no_clocks()):
                with self.subTest(at):
                    self.refused_and_unchanged(wall, BadClock, wall.put, thing)
            self.assertEqual(wall.put((12, 3)), number)

    def test_no_clock_ahead_of_too_many(self):
        wall = full_wall()
        for at, thing in enumerate(no_clocks()):
            with self.subTest(at):
                self.refused(BadClock, wall.put, thing)
        self.assertEqual(state(wall), state(full_wall()))


class NoNumber(Refusing):
    def no_clock_has(self, wall):
        """What is no number of a clock on the wall: things of all kinds, odd ones, one not given yet."""
        return no_numbers() + ODD_NUMBERS + [next_number(wall), next_number(wall) + 1]

    def asks(self, wall):
        """Everything that asks for a number, with further arguments good and bad."""
        return [
            (wall.take, [()]), (wall.turn_to, [(0,), (-1,), (None,), (WIDE,), ([0],)]),
            (wall.shows, [(0,), (-1,), (None,), (True,), ("0",), ([0],)]),
        ]

    def test_what_no_clock_has(self):
        for wall in [Wall(), wall_of_clocks([(12, 3)]), worn_wall(), full_wall()]:
            for at, thing in enumerate(self.no_clock_has(wall)):
                for ask, rests in self.asks(wall):
                    with self.subTest((at, ask.__name__)):
                        for rest in rests:
                            self.refused(NoClock, ask, thing, *rest)
            before = state(wall)
            for ask, rests in self.asks(wall):
                self.refused_and_unchanged(wall, NoClock, ask, True, *rests[0])
            self.assertEqual(state(wall), before)

    def test_nothing_is_changed(self):
        wall = worn_wall()
        for thing in self.no_clock_has(wall):
            for ask, rests in self.asks(wall):
                self.refused_and_unchanged(wall, NoClock, ask, thing, *rests[0])
        self.assertEqual(wall.put((4, 1)), 6)

    def test_a_number_that_was_taken(self):
        wall = worn_wall()
        for number in [2, 5]:
            for ask, rests in self.asks(wall):
                for rest in rests:
                    self.refused_and_unchanged(wall, NoClock, ask, number, *rest)

    def test_a_number_of_another_wall(self):
        wall, _ = wall_of_clocks([(12, 3)]), wall_of_clocks([(4, 1), (5, 2)])
        for ask, rests in self.asks(wall):
            self.refused_and_unchanged(wall, NoClock, ask, 2, *rests[0])

    def test_texts_and_clocks(self):
        wall = wall_of_clocks([(12, 3)])
        for thing in ["1", "clock 1", "", [1], [], (1,), (12, 3), (1, (12, 3))]:
            for ask, rests in self.asks(wall):
                self.refused_and_unchanged(wall, NoClock, ask, thing, *rests[0])


class Take(Refusing):
    def test_the_clock_that_goes(self):
        wall = wall_of_clocks(good_clocks())
        left = list(enumerate(good_clocks(), 1))
        for number in [3, 1, len(left), 7]:
            told = wall.take(number)
            self.assertIs(type(told), tuple)
            self.assertEqual(told, good_clocks()[number - 1])
            left = [row for row in left if row[0] != number]
            self.assertEqual(wall.clocks(), left)
            self.assertEqual(next_number(wall), len(good_clocks()) + 1)

    def test_not_twice(self):
        wall = wall_of_clocks([(12, 3), (4, 1)])
        wall.take(1)
        self.refused_and_unchanged(wall, NoClock, wall.take, 1)

    def test_behind_turn_to(self):
        wall = wall_of_clocks([(12, 3)])
        wall.turn_to(1, 11)
        self.assertEqual(wall.take(1), (12, 11))


class TurnTo(Refusing):
    def test_the_clock_has_that_hour(self):
        wall = wall_of_clocks([(4, 1), (12, 3), (5, 2)])
        for hour in range(12):
            self.assertIsNone(wall.turn_to(2, hour))
            self.assertEqual(wall.clocks(), [(1, (4, 1)), (2, (12, hour)), (3, (5, 2))])
        self.assertEqual(next_number(wall), 4)

    def test_the_hour_it_has(self):
        wall = wall_of_clocks([(12, 3)])
        self.assertIsNone(wall.turn_to(1, 3))
        self.assertEqual(state(wall), ([(1, (12, 3))], 2))

    def test_edges(self):
        for hours in [1, 2, 12, WIDE - 1, WIDE]:
            wall = wall_of_clocks([(hours, 0)])
            wall.turn_to(1, hours - 1)
            self.assertEqual(wall.clocks(), [(1, (hours, hours - 1))])
            wall.turn_to(1, 0)
            self.assertEqual(wall.clocks(), [(1, (hours, 0))])
            for hour in [-1, hours, hours + 1, -hours, 2 * hours, 10 ** 60]:
                self.refused_and_unchanged(wall, BadClock, wall.turn_to, 1, hour)

    def test_what_is_no_hour(self):
        wall = worn_wall()
        for at, thing in enumerate(no_numbers() + no_clocks()):
            if type(thing) is int and 0 <= thing < 12:
                continue
            with self.subTest(at):
                self.refused_and_unchanged(wall, BadClock, wall.turn_to, 1, thing)
        self.assertEqual(wall.put((4, 1)), 6)

    def test_each_by_its_own_hours(self):
        wall = wall_of_clocks([(4, 1), (12, 3)])
        self.refused_and_unchanged(wall, BadClock, wall.turn_to, 1, 4)
        wall.turn_to(2, 4)
        self.assertEqual(wall.clocks(), [(1, (4, 1)), (2, (12, 4))])

    def test_the_number_is_refused_first(self):
        wall = worn_wall()
        for number in [0, 2, 5, 6, -1, True, None, "1", [1], (1,)]:
            for hour in [0, -1, 60, True, None, "1", [1], (1,)]:
                self.refused_and_unchanged(wall, NoClock, wall.turn_to, number, hour)

    def test_what_is_told_later(self):
        wall = wall_of_clocks([(12, 3), (4, 3)])
        wall.turn_to(1, 6)
        self.assertEqual(wall.clash(), (1, 2))
        self.assertIs(wall.is_met(3), False)
        wall.turn_to(2, 2)
        self.assertIsNone(wall.clash())
        self.assertEqual(wall.fold(), (12, 6))
        self.assertEqual(wall.shows(1, 15), 3)


class Lay(Refusing):
    def test_all_clocks_by_rising_numbers(self):
        wall, other = wall_of_clocks([(4, 1), (5, 2)]), worn_wall()
        before = state(other)
        self.assertIsNone(wall.lay(other))
        told = [(1, (4, 1)), (2, (5, 2)), (3, (12, 3)), (4, (60, 51)), (5, (5, 1))]
        self.assertEqual(state(wall), (told, 6))
        self.assertEqual(state(other), before)

    def test_numbers_behind_takes(self):
        wall = wall_of_clocks([(4, 1), (5, 2)])
        wall.take(2)
        wall.lay(worn_wall())
        self.assertEqual(state(wall), ([(1, (4, 1)), (3, (12, 3)), (4, (60, 51)), (5, (5, 1))], 6))

    def test_by_number_behind_turn_to(self):
        other = wall_of_clocks([(4, 1), (5, 2), (6, 3)])
        other.turn_to(1, 3)
        wall = Wall()
        wall.lay(other)
        self.assertEqual(wall.clocks(), [(1, (4, 3)), (2, (5, 2)), (3, (6, 3))])

    def test_laid_to_itself(self):
        wall = worn_wall()
        self.assertIsNone(wall.lay(wall))
        told = [(1, (12, 3)), (3, (60, 51)), (4, (5, 1)), (6, (12, 3)), (7, (60, 51)), (8, (5, 1))]
        self.assertEqual(state(wall), (told, 9))
        wall.lay(wall)
        self.assertEqual(len(wall.clocks()), 12)

    def test_an_empty_one(self):
        emptied = wall_of_clocks([(12, 3)])
        emptied.take(1)
        for other in [Wall(), emptied]:
            for wall in [Wall(), worn_wall(), full_wall(), emptied]:
                before = state(wall)
                self.assertIsNone(wall.lay(other))
                self.assertEqual(state(wall), before)
        self.assertEqual(state(emptied), ([], 2))

    def test_just_all(self):
        wall = wall_of_clocks([(12, 3)] * 30)
        wall.lay(wall)
        self.assertEqual(state(wall), ([(number, (12, 3)) for number in range(1, 61)], 61))
        empty = Wall()
        empty.lay(full_wall())
        self.assertEqual(empty.clocks(), full_wall().clocks())

    def test_not_all_then_none(self):
        for many, others in [(59, 2), (60, 1), (31, 30), (1, 60), (60, 60), (40, 21)]:
            wall, other = wall_of_clocks([(12, 3)] * many), wall_of_clocks([(4, 1)] * others)
            before = state(other)
            self.refused_and_unchanged(wall, TooMany, wall.lay, other)
            self.assertEqual(state(other), before)
        wall = wall_of_clocks([(12, 3)] * 31)
        self.refused_and_unchanged(wall, TooMany, wall.lay, wall)
        wall.take(31)
        wall.lay(wall)
        self.assertEqual(len(wall.clocks()), 60)
        self.assertEqual(wall.clocks()[30], (32, (12, 3)))

    def test_what_is_no_wall(self):
        for wall in [Wall(), worn_wall(), full_wall()]:
            for at, thing in enumerate(no_walls()):
                with self.subTest(at):
                    self.refused_and_unchanged(wall, BadWall, wall.lay, thing)

    def test_neither_shows_on_the_other(self):
        wall, other = Wall(), wall_of_clocks([(12, 3), (4, 1)])
        wall.lay(other)
        wall.turn_to(1, 5)
        other.turn_to(2, 2)
        self.assertEqual(wall.clocks(), [(1, (12, 5)), (2, (4, 1))])
        self.assertEqual(other.clocks(), [(1, (12, 3)), (2, (4, 2))])
        other.take(1)
        self.assertEqual(wall.clocks(), [(1, (12, 5)), (2, (4, 1))])


class Clocks(unittest.TestCase):
    def test_a_list_of_tuples_rising(self):
        told = worn_wall().clocks()
        self.assertIs(type(told), list)
        for row in told:
            self.assertEqual((type(row), type(row[0]), type(row[1])), (tuple, int, tuple))
        self.assertEqual(told, [(1, (12, 3)), (3, (60, 51)), (4, (5, 1))])

    def test_rising_whatever_was_done(self):
        wall = full_wall()
        for number in [60, 1, 30, 31, 2]:
            wall.take(number)
        wall.put((12, 3))
        wall.turn_to(3, 0)
        wall.turn_to(59, 0)
        numbers = [number for number, _ in wall.clocks()]
        self.assertEqual(numbers, list(range(3, 30)) + list(range(32, 60)) + [61])

    def test_what_was_told_is_the_askers_own(self):
        wall = worn_wall()
        before = state(wall)
        told = wall.clocks()
        told.append((9, (4, 1)))
        told[0] = None
        told.reverse()
        self.assertEqual(state(wall), before)
        told.clear()
        self.assertEqual(state(wall), before)
        self.assertIsNot(wall.clocks(), wall.clocks())

    def test_what_was_told_stays(self):
        wall = worn_wall()
        told = wall.clocks()
        kept = copy.deepcopy(told)
        wall.put((4, 1))
        wall.turn_to(1, 5)
        wall.take(3)
        wall.lay(wall)
        self.assertEqual(told, kept)


class Shows(Refusing):
    def test_as_the_clock_does(self):
        wall = wall_of_clocks(good_clocks())
        for number, clock in wall.clocks():
            for turn in BOTH_WAYS:
                told = wall.shows(number, turn)
                self.assertIs(type(told), int)
                self.assertEqual(told, shows(clock, turn))
                self.assertTrue(0 <= told < clock[0] and (turn - told) % clock[0] == 0)

    def test_ordinary_ones(self):
        wall = wall_of_clocks([(12, 3), (5, 4)])
        for turn, told in [(0, (0, 0)), (25, (1, 0)), (-1, (11, 4)), (-12, (0, 3)), (10 ** 40, (4, 0))]:
            self.assertEqual((wall.shows(1, turn), wall.shows(2, turn)), told)

    def test_behind_takes_and_turn_to(self):
        wall = worn_wall()
        wall.turn_to(3, 0)
        self.assertEqual((wall.shows(1, 61), wall.shows(3, 61), wall.shows(4, 61)), (1, 1, 1))

    def test_what_is_no_turn(self):
        wall = worn_wall()
        for at, thing in enumerate(no_numbers()):
            with self.subTest(at):
                self.refused_and_unchanged(wall, BadTurn, wall.shows, 1, thing)

    def test_the_number_is_refused_first(self):
        wall = worn_wall()
        for number in [0, 2, 5, 6, -1, True, None, "1", [1], (1,)]:
            for turn in [0, -1, True, None, "1", [1], (1,)]:
                self.refused_and_unchanged(wall, NoClock, wall.shows, number, turn)


class Copied(unittest.TestCase):
    def test_alike(self):
        for wall in [Wall(), worn_wall(), full_wall()]:
            twin = wall.copied()
            self.assertIs(type(twin), Wall)
            self.assertIsNot(twin, wall)
            self.assertEqual(twin.clocks(), wall.clocks())

    def test_the_next_number_is_the_same(self):
        wall = worn_wall()
        twin = wall.copied()
        self.assertEqual((twin.put((4, 1)), wall.put((4, 2))), (6, 6))
        emptied = wall_of_clocks([(12, 3)] * 3)
        for number in [1, 2, 3]:
            emptied.take(number)
        self.assertEqual(emptied.copied().copied().put((12, 3)), 4)

    def doings(self):
        return [
            lambda wall: wall.put((4, 1)), lambda wall: wall.take(1), lambda wall: wall.turn_to(3, 7),
            lambda wall: wall.lay(wall), lambda wall: wall.lay(worn_wall()), lambda wall: wall.clocks().clear(),
        ]

    def test_neither_shows_on_the_other(self):
        for do in self.doings():
            for turned in [False, True]:
                wall = worn_wall()
                twin = wall.copied()
                one, other = (twin, wall) if turned else (wall, twin)
                do(one)
                self.assertEqual(other.clocks(), worn_wall().clocks())
                self.assertEqual(other.put((4, 1)), 6)

    def test_a_copy_may_be_laid(self):
        wall = worn_wall()
        wall.lay(wall.copied())
        self.assertEqual([number for number, _ in wall.clocks()], [1, 3, 4, 6, 7, 8])


class Unchanged(Refusing):
    def test_asking_changes_nothing(self):
        for wall in meeting_walls() + never_walls():
            before = state(wall)
            for _ in range(2):
                for ask, args in [
                    (wall.clocks, ()), (wall.clash, ()), (wall.copied, ()), (wall.fold, ()), (wall.is_met, (5,)),
                    (wall.next_turn, (5,)), (wall.last_turn, (5,)),
                ]:
                    try:
                        ask(*args)
                    except Never:
                        pass
                    self.assertEqual(state(wall), before)

    def test_what_is_handed_in_stays_as_it_was(self):
        wall = worn_wall()
        before = state(wall)
        for thing in [[12, 3], [], {12: 3}, {}, {12, 3}, (12, [3]), ([12], 3), bytearray(b"ab"), [1], (1, [2])]:
            kept = copy.deepcopy(thing)
            for ask, args in [
                (wall.put, (thing,)), (wall.take, (thing,)), (wall.turn_to, (thing, thing)),
                (wall.turn_to, (1, thing)), (wall.lay, (thing,)), (wall.shows, (thing, thing)),
                (wall.shows, (1, thing)), (wall.is_met, (thing,)), (wall.next_turn, (thing,)),
                (wall.last_turn, (thing,)),
            ]:
                with self.assertRaises(FoldError):
                    ask(*args)
                self.assertEqual(thing, kept)
                self.assertEqual(state(wall), before)

    def test_a_wall_with_wide_numbers(self):
        wall = wall_of("clock 999999999 12 3\ngiven 1000000000")
        self.assertEqual(wall.put((4, 3)), 10 ** 9 + 1)
        self.assertEqual(wall.clocks(), [(10 ** 9 - 1, (12, 3)), (10 ** 9 + 1, (4, 3))])
        self.assertEqual(wall.fold(), (12, 3))
        self.refused_and_unchanged(wall, NoClock, wall.take, 10 ** 9)


if __name__ == "__main__":
    unittest.main()
