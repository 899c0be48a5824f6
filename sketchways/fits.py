"""Towns that hold a sketch: how it fits, and the sketch of what lies between some crossings of a town."""

from sketchways.errors import BadCrossings, BadFacts, BadNames, BadStreets, Undrawn
from sketchways.forms import are_names, in_order, is_integer, is_row, is_same
from sketchways.sketches import Sketch
from sketchways.towns import straight_from

LETTERS = "abcdefghijklmnopqrst"
MOST_NAMES = 5


def line_from(town, names, stop):
    """The line from this stop to one of these crossings: the ends passed, and the stop; None if there is none."""
    passed = []
    at = town[stop]
    while at[0] not in names:
        on = town.taken(at, ("on",))
        if on is None:
            return None
        passed.append((at[0], at[1], on))
        at = town[(at[0], on)]
    return tuple(passed), at


def crossings_by_name(town):
    """The crossings of the town by their names."""
    return {row[0]: row for row in town.crossings}


def gap_behind(numbers, k, many):
    """How many further ends a crossing with so many ends has between the told end k and the next one, clockwise."""
    return (numbers[(k + 1) % len(numbers)] - numbers[k] - 1) % many


def goes_straight(told, placed, numbers):
    """Whether told ends with these numbers go straight on to one another just as this told crossing says."""
    name, ends, straight, signs = told
    by_end = {end: number for end, number in zip(ends, numbers)}
    for end in ends:
        partner = straight_from(straight, end)
        if straight_from(placed[2], by_end[end]) != (None if partner is None else by_end[partner]):
            return False
    return True


def is_round(told, placed, facts, numbers):
    """Whether these may be the numbers of the ends of this told crossing where it is this crossing of a town."""
    name, ends, straight, signs = told
    many = placed[1]
    if not is_row(numbers, len(ends)) or not all([is_integer(number) and 0 <= number < many for number in numbers]):
        return False
    gaps = [gap_behind(numbers, k, many) for k in range(len(ends))]
    # Numbers that go round more than once, or not at all, have other gaps in all.
    if sum(gaps) != many - len(ends):
        return False
    if any([gaps[k] > 0 and ("shut", name, end) in facts for k, end in enumerate(ends)]):
        return False
    return goes_straight(told, placed, numbers)


def clockwise(many, told):
    """All tuples of so many told ones of the numbers of so many ends, going clockwise once."""
    rows = [(0,)]
    for _ in range(told - 1):
        rows = [(*row, k) for row in rows for k in range(row[-1] + 1, many)]
    return [tuple([(first + k) % many for k in row]) for first in range(many) for row in rows]


def rounds_of(told, by_name, facts):
    """All rounds that this told crossing may have in a town with these crossings."""
    if told[0] not in by_name:
        return []
    placed = by_name[told[0]]
    return [row for row in clockwise(placed[1], len(told[1])) if is_round(told, placed, facts, row)]


def signs_fit(sketch, town):
    """Whether the signs of the town stand as the sketch and its facts say."""
    told = {row[0]: row[3] for row in sketch.crossings}
    for name, ends, straight, signs in town.crossings:
        there = told.get(name, ())
        further = [sign for sign in signs if sign not in there]
        if len(signs) != len(there) + len(further):
            return False
        if further != [] and ("full", name) in sketch:
            return False
        if any([("only", sign) in sketch for sign in further]):
            return False
    return True


def place_in_round(sketch, stop):
    """At which place of the rounds of its crossing the end of this told stop stands."""
    ends = {row[0]: row[1] for row in sketch.crossings}
    return ends[stop[0]].index(stop[1])


def with_number(sketch, rounds, stop, number):
    """These rounds of each told crossing, but for those in which the end of this told stop has another number."""
    at = place_in_round(sketch, stop)
    return {name: [row for row in rows if name != stop[0] or row[at] == number] for name, rows in rounds.items()}


def passages(sketch, town, rounds, ways):
    """For each line that may be the told street behind these ways: its way, and the rounds that are left."""
    one, other = sketch.streets[len(ways)]
    passed = [row[0] for way in ways for row in way]
    at = place_in_round(sketch, one)
    found = []
    for number in {row[at]: True for row in rounds[one[0]]}:
        line = line_from(town, rounds, (one[0], number))
        if line is None or line[1][0] != other[0] or (line[0] != () and ("clear", *one) in sketch):
            continue
        names = passed + [row[0] for row in line[0]]
        left = with_number(sketch, with_number(sketch, rounds, one, number), other, line[1][1])
        if len(set(names)) == len(names) and all([rows != [] for rows in left.values()]):
            found.append((line[0], left))
    return found


def fitted(sketch, town, rounds, ways):
    """A fit by one of these rounds of each told crossing and these ways of the first streets, None if there is none."""
    if len(ways) == len(sketch.streets):
        return tuple([rounds[row[0]][0] for row in sketch.crossings]), ways
    for way, left in passages(sketch, town, rounds, ways):
        found = fitted(sketch, town, left, (*ways, way))
        if found is not None:
            return found
    return None


def fit(sketch, town):
    """Any fit of the sketch in the town, None if there is none."""
    by_name = crossings_by_name(town)
    rounds = {row[0]: rounds_of(row, by_name, sketch.facts) for row in sketch.crossings}
    if not all([rows != [] for rows in rounds.values()]) or not signs_fit(sketch, town):
        return None
    return fitted(sketch, town, rounds, ())


def is_fit(sketch, town, value):
    """Whether this is a fit of the sketch in the town."""
    if not is_row(value, 2) or not is_row(value[0], len(sketch.crossings)):
        return False
    by_name = crossings_by_name(town)
    rounds = {}
    for told, numbers in zip(sketch.crossings, value[0]):
        if told[0] not in by_name or not is_round(told, by_name[told[0]], sketch.facts, numbers):
            return False
        rounds[told[0]] = [numbers]
    # By one round of each crossing there is at most one fit.
    return signs_fit(sketch, town) and is_same(fitted(sketch, town, rounds, ()), value)


def shows_fit(sketch, town, value):
    """Whether this is what fit may return."""
    if value is None:
        return fit(sketch, town) is None
    return is_fit(sketch, town, value)


def name_of_end(number):
    """The name that the end with this number has in a drawn sketch."""
    return "e" + LETTERS[number]


def told_numbers(placed, lines):
    """The numbers of the ends of this crossing of a town that have lines, or go straight on to one that has."""
    name, ends, straight, signs = placed
    return [end for end in range(ends) if (name, end) in lines or (name, straight_from(straight, end)) in lines]


def drawn_crossing(placed, numbers):
    """This crossing of a town as a sketch tells it by these of its ends."""
    name, ends, straight, signs = placed
    pairs = [(name_of_end(one), name_of_end(other)) for one, other in straight if one in numbers]
    return name, tuple([name_of_end(number) for number in numbers]), tuple(pairs), signs


def drawn_facts(town, crossings, told, lines):
    """All facts that are so in the town, of the told ends of these crossings and the lines between them."""
    names = [row[0] for row in crossings]
    signs = {sign: True for row in crossings for sign in row[3]}
    elsewhere = [sign for row in town.crossings if row[0] not in names for sign in row[3]]
    found = [("only", sign) for sign in signs if sign not in elsewhere] + [("full", name) for name in names]
    for name, many, straight, _ in crossings:
        for k, number in enumerate(told[name]):
            if gap_behind(told[name], k, many) == 0:
                found.append(("shut", name, name_of_end(number)))
    for (name, end), (passed, stop) in lines.items():
        if (name, end) < stop and passed == ():
            found.append(("clear", name, name_of_end(end)))
    return tuple(in_order(found))


def drawn(town, names):
    """The sketch of what lies between these crossings of the town."""
    if not are_names(names) or not 1 <= len(names) <= MOST_NAMES or not all([name in town for name in names]):
        raise BadNames(names)
    crossings = [row for row in town.crossings if row[0] in names]
    stops = [(row[0], end) for row in crossings for end in range(row[1])]
    lines = {stop: line_from(town, names, stop) for stop in stops}
    lines = {stop: lines[stop] for stop in stops if lines[stop] is not None}
    told = {row[0]: told_numbers(row, lines) for row in crossings}
    streets = [(stop, line[1]) for stop, line in lines.items() if stop < line[1]]
    passed = [row[0] for stop, other in streets for row in lines[stop][0]]
    if len(set(passed)) < len(passed):
        raise Undrawn(names)
    try:
        return Sketch(
            tuple([drawn_crossing(row, told[row[0]]) for row in crossings]),
            tuple([((one[0], name_of_end(one[1])), (other[0], name_of_end(other[1]))) for one, other in streets]),
            drawn_facts(town, crossings, told, lines),
        )
    except (BadCrossings, BadStreets, BadFacts):
        raise Undrawn(names) from None
