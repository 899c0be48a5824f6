"""Comparing: whether two directions lead alike in every town that holds a sketch."""

from sketchways.cases import Unknown, endings, with_answer
from sketchways.directions import FIRST_STATE
from sketchways.fillings import together
from sketchways.fits import is_fit
from sketchways.forms import in_order, is_row
from sketchways.towns import Town
from sketchways.walking import done_at, kept_stops, need_start, placed_stops
from sketchways.ways import Walkers

APART = ("apart",)


def known_where_apart(found):
    """What is known where the two part in one of these cases."""
    return [with_answer(case, told) for case, told in endings(found) if told == APART]


def part(town, one, other, stop, kept):
    """Whether two walkers who leave from this stop part, where they leave the sketch by an end that is not kept."""
    stop = town[stop]
    states = (FIRST_STATE, FIRST_STATE)
    been = {}
    while (stop, states) not in been:
        been[(stop, states)] = True
        told = together([done_at(town, one, stop, states[0], kept), done_at(town, other, stop, states[1], kept)])
        if told[0] != "go":
            return told == APART
        stop = town[(stop[0], told[1])]
        states = told[2:]
    return False


def shows_apart(sketch, one, other, start, shown):
    """Whether this shows that the two part: a town, and its fit."""
    town, told = shown
    if not isinstance(town, Town) or not is_fit(sketch, town, told):
        return False
    return part(town, one, other, placed_stops(sketch, told)[start], kept_stops(sketch, told))


def alike(sketch, one, other, start):
    """("alike", cases), or ("apart", town, fit) with a town of least cost in which the two part."""
    need_start(sketch, start)
    unknown = Unknown(sketch, Walkers([one, other]))
    found = unknown.all_cases(start)
    least = unknown.least_town(known_where_apart(found))
    if least is None:
        return "alike", tuple(in_order(list(found)))
    return "apart", least[0], least[1]


def shows_alike(sketch, one, other, start, value):
    """Whether this is a correct answer of alike, perhaps with more cases, or a town of higher cost."""
    need_start(sketch, start)
    unknown = Unknown(sketch, Walkers([one, other]))
    # There may be too many cases, whatever the value.
    unknown.all_cases(start)
    if is_row(value, 2) and value[0] == "alike":
        found = unknown.closed(start, value[1])
        return found is not None and known_where_apart(found) == []
    return is_row(value, 3) and value[0] == "apart" and shows_apart(sketch, one, other, start, value[1:])
