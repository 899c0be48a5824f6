"""Towns: crossings with numbered ends, joined by streets."""

from sketchways.errors import BadChoice, BadCrossings, BadStreets, NoStop
from sketchways.forms import are_names, are_pairs, ascends, in_order, is_integer, is_name, is_row, is_told

MOST_ENDS = 20
MOST_COUNTED = 3


def is_town_crossing(value):
    """Whether this is a (name, ends, straight, signs), as a town has them."""
    if not is_row(value, 4):
        return False
    name, ends, straight, signs = value
    if not is_name(name) or not is_integer(ends) or not 1 <= ends <= MOST_ENDS:
        return False
    return are_pairs(straight, {end: True for end in range(ends)}) and are_names(signs)


def are_town_crossings(value):
    """Whether these are the crossings of a town."""
    if not isinstance(value, tuple) or value == ():
        return False
    return all([is_town_crossing(row) for row in value]) and ascends([row[0] for row in value])


def are_town_streets(value, crossings):
    """Whether these are streets that join each end of the crossings to one other end."""
    stops = {(row[0], end): True for row in crossings for end in range(row[1])}
    # As no stop stands in two pairs, so many pairs leave none out.
    return are_pairs(value, stops) and 2 * len(value) == len(stops)


def ways_across(streets):
    """The stop at the other end of its street, for each stop."""
    found = {}
    for one, other in streets:
        found[one] = other
        found[other] = one
    return found


def is_choice(value):
    """Whether this is a choice of a walker."""
    if value == ("on",) or value == ("back",):
        return True
    if not is_row(value, 2) or not is_integer(value[1]):
        return False
    return (value[0] == "left" or value[0] == "right") and 1 <= value[1] <= MOST_COUNTED


def straight_from(straight, end):
    """The end that goes straight on from this one, None if none does."""
    for one, other in straight:
        if one == end:
            return other
        if other == end:
            return one
    return None


def sides_of(ends, on, behind):
    """The ends on the left and those on the right of the end behind, each as they are counted."""
    others = [(behind + k) % ends for k in range(1, ends)]
    if on is None:
        return others, others[::-1]
    at = others.index(on)
    return others[:at], others[at + 1:][::-1]


def view_from(crossing, behind):
    """What a walker sees at this crossing with this end behind: (left, right, on, signs)."""
    name, ends, straight, signs = crossing
    on = straight_from(straight, behind)
    left, right = sides_of(ends, on, behind)
    return len(left), len(right), on is not None, signs


def end_taken(crossing, behind, choice):
    """The number of the end that the choice takes at this crossing, None if there is none."""
    name, ends, straight, signs = crossing
    if choice[0] == "back":
        return behind
    on = straight_from(straight, behind)
    if choice[0] == "on":
        return on
    left, right = sides_of(ends, on, behind)
    side = left if choice[0] == "left" else right
    return side[choice[1] - 1] if choice[1] <= len(side) else None


def mirrored_crossing(crossing):
    """This crossing of a town as its mirror image has it."""
    name, ends, straight, signs = crossing
    turned = [(mirrored_end(ends, one), mirrored_end(ends, other)) for one, other in straight]
    return name, ends, in_pairs(turned), signs


def mirrored_end(ends, end):
    """The number that this end has in the mirror image of a crossing with so many ends."""
    return (ends - end) % ends


def in_pairs(pairs):
    """The ascending tuple of these pairs, the lesser one first in each."""
    return tuple(in_order([(one, other) if one < other else (other, one) for one, other in pairs]))


class Town:
    """A town: its crossings, and the streets between their ends."""

    def __init__(self, crossings, streets):
        if not are_town_crossings(crossings):
            raise BadCrossings(crossings)
        if not are_town_streets(streets, crossings):
            raise BadStreets(streets)
        self._crossings = crossings
        self._streets = streets
        self._by_name = {row[0]: row for row in crossings}
        self._across = ways_across(streets)

    @property
    def crossings(self):
        """The crossings, as passed."""
        return self._crossings

    @property
    def streets(self):
        """The streets, as passed."""
        return self._streets

    @property
    def names(self):
        """The names of the crossings, ascending."""
        return tuple([row[0] for row in self._crossings])

    def __contains__(self, x):
        return isinstance(x, str) and x in self._by_name

    def __len__(self):
        return len(self._crossings)

    def __getitem__(self, at):
        if not is_told(at, self._across):
            raise NoStop(at)
        return self._across[at]

    # Without it Python would go over a town by the numbers from 0, which are no stops.
    def __iter__(self):
        raise TypeError("a town is not gone over")

    def __eq__(self, other):
        return isinstance(other, Town) and self._crossings == other._crossings and self._streets == other._streets

    def __invert__(self):
        stops = {}
        for name, ends, straight, signs in self._crossings:
            for end in range(ends):
                stops[(name, end)] = (name, mirrored_end(ends, end))
        crossings = tuple([mirrored_crossing(row) for row in self._crossings])
        return Town(crossings, in_pairs([(stops[one], stops[other]) for one, other in self._streets]))

    def view(self, stop):
        """What a walker sees who stands here: (left, right, on, signs)."""
        if not is_told(stop, self._across):
            raise NoStop(stop)
        return view_from(self._by_name[stop[0]], stop[1])

    def taken(self, stop, choice):
        """The number of the end that the choice takes, None if there is none."""
        if not is_told(stop, self._across):
            raise NoStop(stop)
        if not is_choice(choice):
            raise BadChoice(choice)
        return end_taken(self._by_name[stop[0]], stop[1], choice)
