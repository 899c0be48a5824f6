"""Sketches: some crossings of a town, some streets between them, and facts about the rest."""

from sketchways.errors import BadCrossings, BadFact, BadFacts, BadStreets, NotTold, OtherNet, Told
from sketchways.forms import are_names, are_pairs, ascends, in_order, is_name, is_row

MOST_CROSSINGS = 5
MOST_ENDS = 4
MOST_SIGNS = 4
MOST_STREETS = 7
MOST_OPEN_GAPS = 3


def are_ends(value):
    """Whether this is a tuple of 1 to 4 different names."""
    if not isinstance(value, tuple) or not 1 <= len(value) <= MOST_ENDS:
        return False
    return all([is_name(end) for end in value]) and len(set(value)) == len(value)


def is_told_crossing(value):
    """Whether this is a (name, ends, straight, signs), as a sketch has them."""
    if not is_row(value, 4):
        return False
    name, ends, straight, signs = value
    if not is_name(name) or not are_ends(ends):
        return False
    if not are_pairs(straight, {end: True for end in ends}):
        return False
    return are_names(signs) and len(signs) <= MOST_SIGNS


def are_told_crossings(value):
    """Whether these are the crossings of a sketch."""
    if not isinstance(value, tuple) or not 1 <= len(value) <= MOST_CROSSINGS:
        return False
    return all([is_told_crossing(row) for row in value]) and ascends([row[0] for row in value])


def are_told_streets(value, crossings):
    """Whether these are streets between ends of the crossings."""
    stops = {(row[0], end): True for row in crossings for end in row[1]}
    return are_pairs(value, stops) and len(value) <= MOST_STREETS


def facts_of_net(crossings, streets):
    """The list of all facts of these crossings and streets, but of those with the word only."""
    clear = [("clear", name, end) for (name, end), other in streets]
    full = [("full", row[0]) for row in crossings]
    shut = [("shut", row[0], end) for row in crossings for end in row[1]]
    return clear + full + shut


def is_fact(value, others):
    """Whether this is a fact of a sketch, where others are its facts but those with the word only."""
    if is_row(value, 2) and value[0] == "only":
        return is_name(value[1])
    return value in others


def are_facts(value, crossings, streets):
    """Whether these are facts that a sketch of these crossings and streets may have."""
    others = facts_of_net(crossings, streets)
    if not isinstance(value, tuple) or not all([is_fact(fact, others) for fact in value]):
        return False
    return ascends(value) and leave_few_gaps(value, crossings)


def leave_few_gaps(facts, crossings):
    """Whether at most three gaps of each crossing are open by these facts."""
    return all([open_gaps(row, facts) <= MOST_OPEN_GAPS for row in crossings])


def open_gaps(crossing, facts):
    """How many gaps of this crossing are open by these facts."""
    return len([end for end in crossing[1] if ("shut", crossing[0], end) not in facts])


def mirrored_gaps(crossings):
    """For each fact that shuts a gap of the crossings the one that shuts it in the mirror image."""
    turned = {}
    for name, ends, straight, signs in crossings:
        for k, end in enumerate(ends):
            turned[("shut", name, end)] = ("shut", name, ends[(k + 1) % len(ends)])
    return turned


def need_equal_nets(one, other):
    """Raise OtherNet with the right one of two sketches if their nets differ."""
    if one.net != other.net:
        raise OtherNet(other)


def tells_all(one, other):
    """Whether each fact of the other sketch is a fact of this one."""
    return all([fact in one.facts for fact in other.facts])


def facts_of_either(one, other):
    """The ascending tuple of the facts of one sketch or the other."""
    return tuple(in_order([*one.facts, *[fact for fact in other.facts if fact not in one.facts]]))


def only_signs(sketch):
    """The signs that stand nowhere but where the sketch tells them."""
    return [fact[1] for fact in sketch.facts if fact[0] == "only"]


def told_crossing(sketch, name):
    """The told crossing of this name."""
    return [row for row in sketch.crossings if row[0] == name][0]


def street_ends(sketch, name):
    """The ends of told streets at this told crossing."""
    return [stop[1] for street in sketch.streets for stop in street if stop[0] == name]


def told_stops(sketch):
    """The stops of told streets, as the keys of a dict."""
    return {stop: True for street in sketch.streets for stop in street}


class Sketch:
    """A sketch: told crossings and streets, and facts, which can be told and forgotten."""

    def __init__(self, crossings, streets, facts=()):
        if not are_told_crossings(crossings):
            raise BadCrossings(crossings)
        if not are_told_streets(streets, crossings):
            raise BadStreets(streets)
        if not are_facts(facts, crossings, streets):
            raise BadFacts(facts)
        self._crossings = crossings
        self._streets = streets
        self._facts = facts

    @property
    def crossings(self):
        """The told crossings, as passed."""
        return self._crossings

    @property
    def streets(self):
        """The told streets, as passed."""
        return self._streets

    @property
    def facts(self):
        """The ascending tuple of the facts that are told now."""
        return self._facts

    @property
    def net(self):
        """What a sketch keeps, whatever facts it is told: (crossings, streets)."""
        return self._crossings, self._streets

    def tell(self, fact):
        """Add this fact."""
        if not is_fact(fact, facts_of_net(self._crossings, self._streets)):
            raise BadFact(fact)
        if fact in self._facts:
            raise Told(fact)
        self._facts = tuple(in_order([*self._facts, fact]))

    def forget(self, fact):
        """Remove this fact."""
        if not is_fact(fact, facts_of_net(self._crossings, self._streets)):
            raise BadFact(fact)
        if fact not in self._facts:
            raise NotTold(fact)
        kept = tuple([row for row in self._facts if row != fact])
        if not leave_few_gaps(kept, self._crossings):
            raise BadFact(fact)
        self._facts = kept

    def copy(self):
        """An independent equal sketch."""
        return Sketch(self._crossings, self._streets, self._facts)

    def tellable(self):
        """All facts of this sketch, told or not, with the word only just those of its signs."""
        signs = {sign: True for row in self._crossings for sign in row[3]}
        only = [("only", sign) for sign in signs]
        return tuple(in_order(facts_of_net(self._crossings, self._streets) + only))

    def __contains__(self, x):
        return x in self._facts

    def __len__(self):
        return len(self._facts)

    def __eq__(self, other):
        return (isinstance(other, Sketch) and self._crossings == other._crossings
                and self._streets == other._streets and self._facts == other._facts)

    def __or__(self, other):
        if not isinstance(other, Sketch):
            return NotImplemented
        need_equal_nets(self, other)
        return Sketch(self._crossings, self._streets, facts_of_either(self, other))

    def __ior__(self, other):
        if not isinstance(other, Sketch):
            return NotImplemented
        need_equal_nets(self, other)
        self._facts = facts_of_either(self, other)
        return self

    def __and__(self, other):
        if not isinstance(other, Sketch):
            return NotImplemented
        need_equal_nets(self, other)
        return Sketch(self._crossings, self._streets, tuple([fact for fact in self._facts if fact in other.facts]))

    def __le__(self, other):
        if not isinstance(other, Sketch):
            return NotImplemented
        need_equal_nets(self, other)
        return tells_all(self, other)

    def __lt__(self, other):
        if not isinstance(other, Sketch):
            return NotImplemented
        need_equal_nets(self, other)
        return tells_all(self, other) and self._facts != other.facts

    def __ge__(self, other):
        if not isinstance(other, Sketch):
            return NotImplemented
        need_equal_nets(self, other)
        return tells_all(other, self)

    def __gt__(self, other):
        if not isinstance(other, Sketch):
            return NotImplemented
        need_equal_nets(self, other)
        return tells_all(other, self) and self._facts != other.facts

    def __invert__(self):
        turned = mirrored_gaps(self._crossings)
        crossings = tuple([(name, ends[:1] + ends[1:][::-1], straight, signs)
                           for name, ends, straight, signs in self._crossings])
        return Sketch(crossings, self._streets, tuple(in_order([turned.get(fact, fact) for fact in self._facts])))
