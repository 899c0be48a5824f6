"""Cases: what walkers ask, one place behind another, and what is known by then of what they asked."""

from sketchways.building import built
from sketchways.errors import TooMany
from sketchways.forms import ascends, in_order, is_row
from sketchways.places import agreeing, different_answers, is_answer, is_place, is_question

MOST_CASES = 600


def street_behind(sketch, stop):
    """The number of the told street at this stop, and the side at which one enters it there."""
    for number, street in enumerate(sketch.streets):
        if stop in street:
            return number, street.index(stop)
    return None


def with_answer(case, told):
    """What is known behind this case with this answer."""
    place, question, known = case
    if (place, question, told) in known:
        return known
    return tuple(in_order([*known, (place, question, told)]))


def case_behind(sketch, case, told):
    """The case to which this one leads by this answer, None if the walk ends by it."""
    place = case[0]
    if told[0] == "go":
        number, side = street_behind(sketch, (place[1], told[1]))
        return ("along", number), (side, *told[2:]), with_answer(case, told)
    if told[0] == "out":
        name, end = sketch.streets[place[1]][told[1]]
        return ("at", name), (end, *told[2:]), with_answer(case, told)
    return None


class Unknown:
    """What may fill the places of a sketch, for these walkers, and what follows from what is known of it."""

    def __init__(self, sketch, walkers):
        self._sketch = sketch
        self._walkers = walkers
        self._places = [("at", row[0]) for row in sketch.crossings]
        self._places = self._places + [("along", number) for number in range(len(sketch.streets))]
        # All ways of the streets are worked out ahead of all cases, as there may be too many.
        self._ways = {place: walkers.ways(sketch, place) for place in self._places}
        self._agreeing = {}

    def _fillings(self, place, known):
        """The numbers of the fillings of this place by which all is so that is known of it."""
        told = tuple([(question, answer) for other, question, answer in known if other == place])
        if (place, told) not in self._agreeing:
            self._agreeing[(place, told)] = agreeing(self._ways[place], told)
        return self._agreeing[(place, told)]

    def first_case(self, start):
        """The case with which a walk from this stop of a told street begins."""
        number, side = street_behind(self._sketch, start)
        return ("along", number), (side, *self._walkers.firsts), ()

    def leads(self, case):
        """Each possible answer of this case, and the case to which it leads, None if the walk ends by it."""
        place, question, known = case
        answers = different_answers(self._ways[place], self._fillings(place, known), question)
        return [(told, case_behind(self._sketch, case, told)) for told in answers]

    def all_cases(self, start):
        """All cases that come in walks from this stop, each with what it leads to."""
        found = {}
        waiting = [self.first_case(start)]
        while waiting:
            case = waiting.pop()
            if case in found:
                continue
            if len(found) == MOST_CASES:
                raise TooMany(MOST_CASES)
            found[case] = self.leads(case)
            waiting.extend([behind for told, behind in found[case] if behind is not None])
        return found

    def least(self, known):
        """The least cost of fillings by which all this is so, and these fillings by their places."""
        cost = 0
        fillings = {}
        for place in self._places:
            more, filling = self._ways[place].fillings[self._fillings(place, known)[0]]
            cost += more
            fillings[place] = filling
        return cost, fillings

    def least_town(self, rows):
        """A town of least cost in which one of these rows of what may be known is so, and its fit; None for none."""
        found = None
        for known in rows:
            cost, fillings = self.least(known)
            if found is None or cost < found[0]:
                found = (cost, fillings)
        return None if found is None else built(self._sketch, found[1])

    def is_case(self, value):
        """Whether this is of the form of a case."""
        if not is_row(value, 3) or not is_place(self._sketch, value[0]):
            return False
        if not is_question(self._sketch, self._walkers, value[0], value[1]):
            return False
        known = value[2]
        if not isinstance(known, tuple) or not all([self._may_be_known(row) for row in known]):
            return False
        return ascends([(place, question) for place, question, told in known])

    def _may_be_known(self, value):
        if not is_row(value, 3) or not is_place(self._sketch, value[0]):
            return False
        place, question, told = value
        return (is_question(self._sketch, self._walkers, place, question)
                and is_answer(self._sketch, self._walkers, place, told))

    def closed(self, start, value):
        """The cases of this tuple, each with what it leads to; None if it is no closed tuple of cases from there."""
        if not isinstance(value, tuple) or not all([self.is_case(case) for case in value]):
            return None
        found = {case: self.leads(case) for case in value}
        if len(found) < len(value) or self.first_case(start) not in found:
            return None
        behind = [case for rows in found.values() for told, case in rows if case is not None]
        return found if all([case in found for case in behind]) else None


def endings(found):
    """Of these cases each (case, answer) by which the walk ends."""
    return [(case, told) for case, rows in found.items() for told, behind in rows if behind is None]


def cases_round(found):
    """For each way in which some of these cases lead, over other ones, to themselves, one of them."""
    begun = {}
    rounds = []
    for first in found:
        case = first
        while case is not None and case not in begun:
            begun[case] = first
            case = case_known(found, case)
        if case is not None and begun[case] == first:
            rounds.append(case)
    return rounds


def case_known(found, case):
    """The case to which this one leads if its answer is known, otherwise None."""
    # Where the answer is not known, more is known behind, so nothing leads back from there.
    for told, behind in found[case]:
        if behind is not None and behind[2] == case[2]:
            return behind
    return None
