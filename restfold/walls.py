"""Walls: clocks by their numbers, and the turns at which all of them meet."""

from restfold.clocks import agree, hour_at, is_number, is_right, joined, need_clock, need_turn
from restfold.errors import BadWall, Never, NoClock, TooMany

MOST_CLOCKS = 60


class Wall:
    """Clocks, each by a number that no other one ever had on this wall."""

    def __init__(self):
        # The clocks by their numbers; a new number is above all others, so they always rise here.
        self.hung = {}
        # The greatest number that was ever given.
        self.given = 0

    def put(self, clock):
        """Put one more clock on the wall; its number is told."""
        need_clock(clock)
        self.need_room(1)
        # What is handed in isn't kept as it is, so this is a tuple of the wall's own.
        hours, hour = clock
        self.given += 1
        self.hung[self.given] = (hours, hour)
        return self.given

    def take(self, number):
        """Take the clock of this number off the wall; the clock is told."""
        clock = self.clock_of(number)
        del self.hung[number]
        return clock

    def turn_to(self, number, hour):
        """Make this the HOUR of the clock of this number."""
        hours, _ = self.clock_of(number)
        need_clock((hours, hour))
        self.hung[number] = (hours, hour)

    def lay(self, other):
        """Put all clocks of another wall, by their rising numbers, or none where not all can be put."""
        wall_needed(other)
        # A list of its own, as the other wall may be this very one.
        laid = other.clocks()
        self.need_room(len(laid))
        for _, clock in laid:
            self.put(clock)

    def clocks(self):
        """All clocks as tuples (number, clock), by rising numbers."""
        return list(self.hung.items())

    def shows(self, number, turn):
        """The hour that the clock of this number shows at the turn."""
        clock = self.clock_of(number)
        need_turn(turn)
        return hour_at(clock, turn)

    def clash(self):
        """The least two rising numbers of clocks that don't agree, None where each two agree."""
        clocks = self.clocks()
        for at, (one, clock) in enumerate(clocks):
            for other, later in clocks[at + 1:]:
                if not agree(clock, later):
                    return one, other
        return None

    def copied(self):
        """Another wall alike, with the same numbers."""
        return wall_with(self.clocks(), self.given)

    def fold(self):
        """The fold (round, first) of all clocks; Never where they don't meet."""
        found = (1, 0)
        for clock in self.hung.values():
            found = joined(found, clock)
            if found is None:
                # Clocks that don't meet always have two among them that don't agree.
                one, other = self.clash()
                raise Never(one, other)
        return found

    def is_met(self, turn):
        """True if all clocks are right at the turn."""
        need_turn(turn)
        return all([is_right(clock, turn) for clock in self.hung.values()])

    def next_turn(self, turn):
        """The least turn from this one on at which all clocks meet; Never where there is none."""
        need_turn(turn)
        whole, first = self.fold()
        return turn + (first - turn) % whole

    def last_turn(self, turn):
        """The greatest turn up to this one at which all clocks meet; Never where there is none."""
        need_turn(turn)
        whole, first = self.fold()
        return turn - (turn - first) % whole

    def clock_of(self, number):
        """The clock of this number; NoClock of what is no number of a clock here."""
        # True would be taken for 1, and not every thing can be looked up in a dict.
        if not is_number(number) or number not in self.hung:
            raise NoClock("no clock of the wall has this number")
        return self.hung[number]

    def need_room(self, many):
        """Raise TooMany where so many more clocks can't be put."""
        if len(self.hung) + many > MOST_CLOCKS:
            raise TooMany(f"a wall has at most {MOST_CLOCKS} clocks at a time")


def wall_needed(thing):
    """Raise BadWall of what is no wall."""
    # isinstance would let objects in that only claim to be walls.
    if type(thing) is not Wall:
        raise BadWall("a wall is an object of the class Wall")


def wall_with(clocks, given):
    """A wall of these tuples (number, clock), by rising numbers; given is the greatest number ever given there."""
    wall = Wall()
    wall.hung = dict(clocks)
    wall.given = given
    return wall
