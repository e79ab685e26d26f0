"""How the tests look at refusals, and at what a wall is behind them."""

import unittest

from restfold.errors import FoldError

MOST_CLOCKS = 60


class Refusing(unittest.TestCase):
    def refused(self, kind, ask, *args):
        """Check that just this kind is raised; things that can't be shown are told by their place."""
        try:
            ask(*args)
        except FoldError as error:
            self.assertIs(type(error), kind)
            return error
        self.fail(f"{ask.__name__} raised no {kind.__name__}")

    def refused_and_unchanged(self, wall, kind, ask, *args):
        """Check that just this kind is raised, and that the wall is the same behind it."""
        before = state(wall)
        error = self.refused(kind, ask, *args)
        self.assertEqual(state(wall), before)
        return error


def next_number(wall):
    """The number that the wall would give next; the wall stays as it is."""
    twin = wall.copied()
    clocks = twin.clocks()
    if len(clocks) == MOST_CLOCKS:
        twin.take(clocks[0][0])
    return twin.put((1, 0))


def state(wall):
    """The clocks of the wall, and its next number."""
    return wall.clocks(), next_number(wall)
