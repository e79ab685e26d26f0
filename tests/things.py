"""What the tests hand in: good clocks and turns, and things that are none."""

from unittest import mock

from restfold.walls import Wall

WIDE = 10 ** 30


class Sly:
    """Claims to be a tuple or a number, and fails whoever asks it anything."""

    def __init__(self, claimed):
        self.__dict__["claimed"] = claimed

    @property
    def __class__(self):
        return self.__dict__["claimed"]

    def fail(self, *_):
        raise RuntimeError("asked")

    __eq__ = __ne__ = __lt__ = __le__ = __gt__ = __ge__ = fail
    __len__ = __iter__ = __getitem__ = __bool__ = __hash__ = fail
    __int__ = __index__ = __mod__ = __rmod__ = __repr__ = __str__ = fail


class Like:
    """Can be used as an index, and yet is no number."""

    def __index__(self):
        return 1

    __int__ = __index__


def no_numbers():
    """Things of many kinds, no number among them."""
    return [
        True, False, None, "", "1", "one", b"", b"1", [], [1], (), (1,), (1, 0), {}, {1: 0}, {1, 0},
        frozenset([1]), 1j, range(2), object(), int, len, NotImplemented, ..., ValueError("1"), Like(),
        Sly(int), Sly(bool),
    ]


def no_clocks():
    """Things of many kinds, no clock among them."""
    plain = [
        True, False, None, 0, 1, 12, WIDE, "", "12 3", "ab", b"ab", [], [12, 3], {}, {12: 3}, {12: 0, 3: 1},
        {12, 3}, frozenset([12, 3]), range(2), range(12, 14), object(), tuple, len, NotImplemented, ...,
        (), (12,), (12, 3, 0), (12, 3, 12, 3), ((12, 3),), ((12, 3), (12, 3)), iter((12, 3)), Like(),
        Sly(tuple), Sly(int),
    ]
    hours = [(0, 0), (-1, 0), (-12, -3), (0, -1), (-12, 3), (WIDE + 1, 0), (WIDE + 1, WIDE), (10 ** 60, 3)]
    hour = [(12, -1), (12, 12), (12, 13), (12, 24), (1, 1), (1, -1), (WIDE, WIDE), (WIDE, -1), (12, 10 ** 60)]
    as_hours = [(thing, 0) for thing in no_numbers()]
    as_hour = [(12, thing) for thing in no_numbers()]
    as_both = [(thing, thing) for thing in no_numbers()]
    return plain + hours + hour + as_hours + as_hour + as_both


def no_walls():
    """Things of many kinds, no wall among them."""
    return [
        True, False, None, 0, 1, 12, WIDE, "", "given 0", "clock 1 12 3\ngiven 1", b"given 0", [], [(1, (12, 3))],
        (), (12, 3), (1, (12, 3)), {}, {1: (12, 3)}, {12, 3}, frozenset(), object(), Wall, Wall.clocks, len,
        NotImplemented, ..., ValueError("1"), Like(), Sly(Wall), Sly(tuple), mock.Mock(spec=Wall),
    ]


def no_texts():
    """Things of many kinds, no text among them."""
    return [
        None, 0, 1, 12, True, False, b"given 0", bytearray(b"given 0"), [], ["given 0"], (), ("given 0",), {},
        {"given 0": 0}, {"given 0"}, frozenset(), object(), str, len, NotImplemented, ..., Wall(), Like(), Sly(str),
        Sly(int), iter(["given 0"]),
    ]


def good_clocks():
    """Clocks of all widths, those at the edges too."""
    return [
        (1, 0), (2, 0), (2, 1), (12, 0), (12, 3), (12, 11), (60, 59), (7, 4), (97, 50),
        (WIDE, 0), (WIDE, 1), (WIDE, WIDE - 1), (WIDE - 1, 0), (WIDE - 1, WIDE - 2), (2 ** 64, 2 ** 63),
    ]


def small_clocks(most):
    """Every clock of up to so many hours."""
    return [(hours, hour) for hours in range(1, most + 1) for hour in range(hours)]
