"""Clocks: tuples (HOURS, HOUR) that go round, one hour a turn."""

from math import gcd

from restfold.errors import BadClock, BadTurn

MOST_HOURS = 10 ** 30


def is_number(thing):
    """True if the thing is a whole number, False of anything else."""
    # isinstance would let True and False in, and objects that only claim to be numbers.
    return type(thing) is int


def is_clock(thing):
    """True if the thing is a clock, False of anything else."""
    if type(thing) is not tuple or len(thing) != 2:
        return False
    hours, hour = thing
    if not is_number(hours) or not is_number(hour):
        return False
    return 1 <= hours <= MOST_HOURS and 0 <= hour < hours


def need_clock(thing):
    """Raise BadClock of what is no clock."""
    # The text doesn't show the thing: it may be of any kind, also one that can't be shown.
    if not is_clock(thing):
        raise BadClock("a clock is a tuple (HOURS, HOUR) with 0 <= HOUR < HOURS <= 10 ** 30")


def need_turn(thing):
    """Raise BadTurn of what is no turn."""
    if not is_number(thing):
        raise BadTurn("a turn is a whole number")


def hour_at(clock, turn):
    """The hour that the clock shows at the turn; nothing is refused here."""
    return turn % clock[0]


def shows(clock, turn):
    """The hour that the clock shows at the turn."""
    need_clock(clock)
    need_turn(turn)
    return hour_at(clock, turn)


def is_right(clock, turn):
    """True if the clock shows its own HOUR at the turn."""
    return shows(clock, turn) == clock[1]


def witness(one, other):
    """What tells whether two clocks agree: (COMMON, REST, OTHER)."""
    need_clock(one)
    need_clock(other)
    common = gcd(one[0], other[0])
    return common, one[1] % common, other[1] % common


def agree(one, other):
    """True if there is a turn at which both clocks are right."""
    _, rest, others_rest = witness(one, other)
    return rest == others_rest


def both(one, other):
    """The fold (round, first) of two clocks, None where they don't agree."""
    need_clock(one)
    need_clock(other)
    return joined(one, other)


def joined(one, other):
    """The fold of two folds, None where they have no turn in common."""
    # A clock is its own fold; a fold may be far wider than any clock, so nothing is refused here.
    whole, first = one
    hours, hour = other
    common = gcd(whole, hours)
    apart = hour - first
    if apart % common != 0:
        return None
    steps = hours // common
    # The turns of one are first + whole * times; the least of them that is the other's, too, is wanted.
    times = apart // common * inverse(whole // common, steps) % steps
    return whole * steps, first + whole * times


def inverse(number, modulus):
    """A factor that makes number leave what 1 leaves by modulus; only 1 goes into both of them."""
    # Euclid's steps; at each one, rest and number * factor differ by a multiple of modulus.
    rest, next_rest = number, modulus
    factor, next_factor = 1, 0
    while next_rest > 0:
        times = rest // next_rest
        rest, next_rest = next_rest, rest - times * next_rest
        factor, next_factor = next_factor, factor - times * next_factor
    return factor
