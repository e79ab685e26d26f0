"""Texts of walls: how a wall is written, and which texts are read."""

import inspect
import re
import unittest

from hung import worn_wall
from refusing import Refusing, next_number, state
from restfold import texts
from restfold.errors import BadText, BadWall
from restfold.texts import wall_of, wall_text
from restfold.walls import Wall
from things import WIDE, good_clocks, no_texts, no_walls

FIGURES = "(0|[1-9][0-9]*)"
CLOCK = re.compile(f"clock {FIGURES} {FIGURES} {FIGURES}")
GIVEN = re.compile(f"given {FIGURES}")


def bad_row(text):
    """The first row that can't stand where it does, None where all can: told apart from the program's way."""
    last, many, ended = 0, 0, False
    rows = text.split("\n")
    for at, row in enumerate(rows, 1):
        clock, given = CLOCK.fullmatch(row), GIVEN.fullmatch(row)
        if ended or not (clock or given):
            return at
        if given:
            ended = True
            if not last <= int(given[1]) <= 10 ** 9:
                return at
            continue
        number, hours, hour = int(clock[1]), int(clock[2]), int(clock[3])
        many += 1
        if many > 60 or not last < number <= 10 ** 9 or not 0 <= hour < hours <= WIDE:
            return at
        last = number
    return None if ended else len(rows) + 1


def rows_of(many):
    """As many rows of clocks, with the numbers from 1 on."""
    return [f"clock {number} 12 3" for number in range(1, many + 1)]


class Interface(unittest.TestCase):
    def test_names_arguments_and_file(self):
        for name, args in {"wall_text": ["wall"], "wall_of": ["text"]}.items():
            told = getattr(texts, name)
            self.assertTrue(inspect.isfunction(told))
            self.assertEqual(told.__module__, "restfold.texts")
            self.assertEqual(list(inspect.signature(told).parameters), args)

    def test_arguments_by_name(self):
        self.assertEqual(wall_text(wall=wall_of(text="given 7")), "given 7")


class WallText(Refusing):
    def test_no_clocks(self):
        self.assertEqual(wall_text(Wall()), "given 0")

    def test_one_clock(self):
        wall = Wall()
        wall.put((12, 3))
        self.assertEqual(wall_text(wall), "clock 1 12 3\ngiven 1")

    def test_many_clocks(self):
        wall = Wall()
        for clock in good_clocks():
            wall.put(clock)
        rows = [f"clock {at} {hours} {hour}" for at, (hours, hour) in enumerate(good_clocks(), 1)]
        told = wall_text(wall)
        self.assertIs(type(told), str)
        self.assertEqual(told, "\n".join(rows + [f"given {len(rows)}"]))
        self.assertFalse(told.endswith("\n"))

    def test_behind_takes(self):
        self.assertEqual(wall_text(worn_wall()), "clock 1 12 3\nclock 3 60 51\nclock 4 5 1\ngiven 5")
        wall = worn_wall()
        for number in [4, 1, 3]:
            wall.take(number)
        self.assertEqual(wall_text(wall), "given 5")
        wall.put((1, 0))
        self.assertEqual(wall_text(wall), "clock 6 1 0\ngiven 6")

    def test_behind_turn_to_and_lay(self):
        wall = worn_wall()
        wall.turn_to(1, 0)
        wall.turn_to(3, 59)
        wall.lay(Wall())
        self.assertEqual(wall_text(wall), "clock 1 12 0\nclock 3 60 59\nclock 4 5 1\ngiven 5")

    def test_a_copy_is_written_alike(self):
        for wall in [Wall(), worn_wall()]:
            self.assertEqual(wall_text(wall.copied()), wall_text(wall))

    def test_writing_changes_nothing(self):
        wall = worn_wall()
        before = state(wall)
        self.assertEqual(wall_text(wall), wall_text(wall))
        self.assertEqual(state(wall), before)

    def test_what_is_no_wall(self):
        for at, thing in enumerate(no_walls()):
            with self.subTest(at):
                self.refused(BadWall, wall_text, thing)


class Read(Refusing):
    def good_texts(self):
        wide = [f"clock {number} {WIDE - number} {WIDE - number - 1}" for number in range(1, 61)]
        return [
            "given 0", "given 1", "given 17", "given 1000000000", "clock 1 1 0\ngiven 1", "clock 1 12 3\ngiven 9",
            "clock 7 12 0\nclock 9 12 11\nclock 1000000000 2 1\ngiven 1000000000",
            f"clock 3 {WIDE} {WIDE - 1}\ngiven 3", "\n".join(rows_of(60) + ["given 60"]),
            "\n".join(wide + ["given 999"]), "\n".join(rows_of(9) + ["given 10"]), wall_text(worn_wall()),
        ]

    def test_the_text_is_the_same(self):
        for text in self.good_texts():
            with self.subTest(text):
                self.assertIsNone(bad_row(text))
                wall = wall_of(text)
                self.assertIs(type(wall), Wall)
                self.assertEqual(wall_text(wall), text)

    def test_clocks_and_numbers(self):
        self.assertEqual(wall_of("given 0").clocks(), [])
        wall = wall_of(f"clock 7 12 0\nclock 9 {WIDE} 11\ngiven 12")
        self.assertEqual(wall.clocks(), [(7, (12, 0)), (9, (WIDE, 11))])
        for row in wall.clocks():
            self.assertEqual([type(row), type(row[0]), type(row[1])], [tuple, int, tuple])
            self.assertEqual([type(number) for number in row[1]], [int, int])

    def test_the_next_number(self):
        for text, number in [("given 0", 1), ("given 17", 18), ("clock 1 12 3\ngiven 9", 10)]:
            self.assertEqual(next_number(wall_of(text)), number)
            self.assertEqual(wall_of(text).put((4, 1)), number)

    def test_a_wall_is_read_as_it_was(self):
        for wall in [Wall(), worn_wall()]:
            again = wall_of(wall_text(wall))
            self.assertEqual(state(again), state(wall))
            self.assertIsNot(again, wall)

    def test_what_is_read_is_a_wall_in_all(self):
        wall = wall_of("clock 2 4 1\nclock 5 6 3\nclock 8 6 2\ngiven 9")
        self.assertEqual((wall.shows(2, 7), wall.clash()), (3, (2, 8)))
        self.assertEqual(wall.take(8), (6, 2))
        self.assertEqual((wall.fold(), wall.next_turn(10), wall.last_turn(10)), ((12, 9), 21, 9))
        wall.turn_to(5, 1)
        other = Wall()
        other.lay(wall)
        self.assertEqual(other.clocks(), [(1, (4, 1)), (2, (6, 1))])
        self.assertEqual(wall_text(wall), "clock 2 4 1\nclock 5 6 1\ngiven 9")

    def test_each_reading_tells_another_wall(self):
        one, other = wall_of("clock 1 12 3\ngiven 1"), wall_of("clock 1 12 3\ngiven 1")
        one.turn_to(1, 5)
        one.put((4, 1))
        self.assertEqual(state(other), ([(1, (12, 3))], 2))


class Refused(Refusing):
    def at(self, row, text):
        """Check that the text is refused at this row."""
        with self.subTest(text):
            error = self.refused(BadText, wall_of, text)
            self.assertEqual((type(error.row), error.row), (int, row))

    def test_what_is_no_text(self):
        for at, thing in enumerate(no_texts()):
            with self.subTest(at):
                self.assertEqual(self.refused(BadText, wall_of, thing).row, 0)

    def test_given_lacks(self):
        self.at(1, "")
        self.at(2, "clock 1 12 3")
        self.at(4, "\n".join(rows_of(3)))
        self.at(61, "\n".join(rows_of(60)))
        self.at(2, "clock 1 12 3\n")

    def test_a_row_behind_given(self):
        for row in ["", " ", "given 0", "given 1", "given 9", "clock 2 12 3", "more", "\n"]:
            self.at(2, "given 0\n" + row)
            self.at(3, "clock 1 12 3\ngiven 1\n" + row)
            self.at(62, "\n".join(rows_of(60) + ["given 60", row]))

    def test_no_row_of_the_form(self):
        rows = [
            "", " ", "clock", "given", "clocks 1 12 3", "Clock 1 12 3", "CLOCK 1 12 3", "cloc 1 12 3", "lock 1 12 3",
            "clock 1 12", "clock 1", "clock 1 12 3 0", "clock  1 12 3", "clock 1  12 3", "clock 1 12  3",
            " clock 1 12 3", "clock 1 12 3 ", "clock1 12 3", "clock 1 123", "clock 1 12 3.", "clock 1 12 3;",
            "clock, 1 12 3", "clock 1, 12, 3", "clock one 12 3", "clock 1 12 c", "clock 1 0x0c 3", "clock 1 1_2 3",
            "clock 1 12.0 3", "clock 1 1e1 3", "clock 1 (12 3)", "given 1 ", " given 1", "given  1", "given 1 1",
            "given one", "Given 1", "given1", "gave 1", "1 12 3", "1", "12 3", "clock given 1", "given clock 1 12 3",
        ]
        for row in rows:
            self.at(1, row)
            self.at(1, row + "\ngiven 1")
            self.at(3, "\n".join(rows_of(2) + [row, "clock 3 12 3", "given 3"]))

    def test_an_empty_row_ahead(self):
        self.at(1, "\ngiven 0")
        self.at(2, "clock 1 12 3\n\ngiven 1")

    def test_figures(self):
        no_figures = ["", "+1", "-1", "-0", "+0", "1_0", "1.", ".1", "1,", "a", "0b1", "1a", "a1", "~"]
        for word in no_figures + ["00", "01", "007"]:
            self.at(1, f"clock {word} 12 3\ngiven 1")
            self.at(1, f"clock 1 {word} 0\ngiven 1")
            self.at(1, f"clock 1 12 {word}\ngiven 1")
            self.at(1, f"given {word}")
        for hour in ["0", "1", "9", "10", "11"]:
            text = f"clock 1 12 {hour}\ngiven 1"
            self.assertEqual(wall_text(wall_of(text)), text)
        for hour in ["00", "01", "09", "010", "011"]:
            self.at(1, f"clock 1 12 {hour}\ngiven 1")

    def test_very_long_words(self):
        for figures in [32, 100, 1000, 1990]:
            for word in ["1" * figures, "0" * figures, "0" * figures + "1", "1" + "0" * figures]:
                self.at(1, f"clock {word} 12 3\ngiven 1")
                self.at(1, f"clock 1 {word} 3\ngiven 1")
                self.at(1, f"clock 1 12 {word}\ngiven 1")
                self.at(1, f"given {word}")

    def test_a_number_that_does_not_rise(self):
        self.at(1, "clock 0 12 3\ngiven 1")
        self.at(2, "clock 1 12 3\nclock 1 12 3\ngiven 1")
        self.at(2, "clock 1 12 3\nclock 0 12 3\ngiven 1")
        self.at(3, "clock 1 12 3\nclock 5 12 3\nclock 4 12 3\ngiven 9")
        self.at(3, "clock 9 12 3\nclock 10 12 3\nclock 9 12 3\ngiven 10")
        self.at(2, "clock 1000000000 12 3\nclock 1 12 3\ngiven 1000000000")
        self.at(2, "clock 10 12 3\nclock 9 12 3\ngiven 10")
        self.assertEqual(len(wall_of("clock 9 12 3\nclock 10 12 3\nclock 11 12 3\ngiven 11").clocks()), 3)

    def test_edges_of_numbers(self):
        for number in [10 ** 9 - 1, 10 ** 9]:
            self.assertEqual(wall_of(f"clock {number} 12 3\ngiven {number}").clocks(), [(number, (12, 3))])
            self.assertEqual(next_number(wall_of(f"given {number}")), number + 1)
        for number in [10 ** 9 + 1, 10 ** 10, WIDE, 10 ** 31]:
            self.at(1, f"clock {number} 12 3\ngiven 1000000000")
            self.at(1, f"clock {number} 12 3\ngiven {number}")
            self.at(1, f"given {number}")
            self.at(2, f"clock 1 12 3\ngiven {number}")
            self.at(2, f"clock 1 12 3\nclock {number} 12 3\ngiven {number}")

    def test_edges_of_hours(self):
        for hours in [1, WIDE - 1, WIDE]:
            text = f"clock 1 {hours} {hours - 1}\ngiven 1"
            self.assertEqual(wall_of(text).clocks(), [(1, (hours, hours - 1))])
            self.assertEqual(wall_of(f"clock 1 {hours} 0\ngiven 1").clocks(), [(1, (hours, 0))])
        for hours in [0, WIDE + 1, 10 * WIDE]:
            self.at(1, f"clock 1 {hours} 0\ngiven 1")
            self.at(2, f"clock 1 12 3\nclock 2 {hours} 0\ngiven 2")

    def test_an_hour_that_is_none(self):
        for hours, hour in [(1, 1), (12, 12), (12, 13), (12, 100), (12, -1), (WIDE, WIDE), (WIDE, WIDE + 1)]:
            self.at(1, f"clock 1 {hours} {hour}\ngiven 1")
            self.at(2, f"clock 1 12 3\nclock 2 {hours} {hour}\ngiven 2")

    def test_a_61st_clock(self):
        self.at(61, "\n".join(rows_of(61) + ["given 61"]))
        self.at(61, "\n".join(rows_of(61)))
        self.at(61, "\n".join(rows_of(70) + ["given 70"]))
        self.at(60, "\n".join(rows_of(59) + ["clock 60 12 12", "clock 61 12 3", "given 61"]))
        self.assertEqual(len(wall_of("\n".join(rows_of(60) + ["given 61"])).clocks()), 60)

    def test_given_less_than_the_last_number(self):
        self.at(2, "clock 1 12 3\ngiven 0")
        self.at(4, "\n".join(rows_of(3) + ["given 2"]))
        self.at(2, "clock 1000000000 12 3\ngiven 999999999")
        self.at(2, "clock 10 12 3\ngiven 9")
        self.at(2, "clock 10 12 3\ngiven 9\nclock 11 12 3")
        self.assertEqual(next_number(wall_of("clock 10 12 3\ngiven 10")), 11)

    def test_the_first_of_several(self):
        self.at(1, "clock 0 12 3\nclock 1 12 12\ngiven")
        self.at(2, "clock 5 12 3\nclock 4 12 12\ngiven 1")
        self.at(3, "clock 1 12 3\nclock 2 12 3\nmore\nand more\n")
        self.at(1, "\n\n\n")

    def test_other_line_ends(self):
        for end in ["\r\n", "\r", "\x0b", "\x0c", "\x1c", "\x85", "\u2028"]:
            self.at(1, f"clock 1 12 3{end}given 1")

    def test_every_small_change_to_a_text(self):
        signs = "\n 0129-+clockgiven"
        for text in ["given 10", "clock 1 12 3\nclock 9 10 9\ngiven 12"]:
            changed = [text[:at] + text[at + 1:] for at in range(len(text))]
            changed += [text[:at] + sign + text[at:] for at in range(len(text) + 1) for sign in signs]
            changed += [text[:at] + sign + text[at + 1:] for at in range(len(text)) for sign in signs]
            changed += [text[:at] for at in range(len(text))] + [text[at:] for at in range(len(text))]
            good = 0
            for one in changed:
                row = bad_row(one)
                if row is None:
                    good += 1
                    self.assertEqual(wall_text(wall_of(one)), one)
                else:
                    self.at(row, one)
            self.assertTrue(0 < good < len(changed))


if __name__ == "__main__":
    unittest.main()
