"""The walls that the tests ask: empty, worn and full ones, those that meet and those that never do."""

from math import gcd

from refusing import MOST_CLOCKS
from restfold.walls import Wall
from things import WIDE

TURNS = [0, 1, 2, 3, 7, 11, 12, 59, 60, 61, 1000, WIDE - 1, WIDE, WIDE + 1, 10 ** 90 + 7, 7 ** 700]
BOTH_WAYS = TURNS + [-turn for turn in TURNS]


def wall_of_clocks(clocks):
    """A wall on which these clocks were put."""
    wall = Wall()
    for clock in clocks:
        wall.put(clock)
    return wall


def full_wall():
    """A wall with as many clocks as it can have."""
    return wall_of_clocks([(hours, hours - 1) for hours in range(1, MOST_CLOCKS + 1)])


def worn_wall():
    """A wall with clocks, numbers that were taken, and the last number taken too."""
    wall = wall_of_clocks([(12, 3), (7, 4), (60, 51), (5, 1), (9, 6)])
    wall.take(2)
    wall.take(5)
    return wall


def least_clash(clocks):
    """The least two numbers of clocks that don't agree, by trying all of them."""
    found = [
        (one, other) for one, clock in clocks for other, later in clocks
        if one < other and (clock[1] - later[1]) % gcd(clock[0], later[0]) != 0
    ]
    return min(found, default=None)


def wide_meeting(many, secret):
    """Wide clocks that all meet at a secret turn, with little in common."""
    return [(WIDE - 7 * at, secret % (WIDE - 7 * at)) for at in range(many)]


def nested_meeting(secret):
    """Clocks whose HOURS go into one another, all meeting at a secret turn."""
    return [(2 ** (at % 50) * 3 ** (at % 31), secret % (2 ** (at % 50) * 3 ** (at % 31))) for at in range(60)]


def meeting_walls():
    """Walls whose clocks meet: without clocks, with one, few and many."""
    return [
        Wall(), wall_of_clocks([(1, 0)]), wall_of_clocks([(12, 3)]), wall_of_clocks([(4, 1), (6, 3)]),
        wall_of_clocks([(2, 1), (3, 2), (5, 4)]), worn_wall(),
        wall_of_clocks([(1, 0), (12, 11), (60, 59), (7, 4), (97, 50)]),
        wall_of_clocks(wide_meeting(60, 7 ** 2000)), wall_of_clocks(nested_meeting(-5)),
    ]


def never_walls():
    """Walls whose clocks never meet."""
    return [
        wall_of_clocks([(2, 0), (2, 1)]), wall_of_clocks([(5, 0), (4, 1), (6, 2), (5, 1)]),
        wall_of_clocks(wide_meeting(59, 7 ** 2000) + [(WIDE, 2)]),
    ]
