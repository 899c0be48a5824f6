"""Walks: how a walker goes by directions in a town."""

from sketchways.directions import FIRST_STATE
from sketchways.errors import BadFit, BadGoal, BadStart
from sketchways.fits import is_fit
from sketchways.forms import is_told
from sketchways.sketches import told_stops


def done_at(town, directions, stop, state, kept):
    """What a walker does who stands here: ("go", end, state), or how the walk ends; by what is not kept it leaves."""
    done = directions.act(state, town.view(stop))
    if done[0] != "go":
        return done
    end = town.taken(stop, done[1])
    if end is None:
        return ("lost",)
    return ("leaves",) if kept is not None and (stop[0], end) not in kept else ("go", end, done[2])


def walked(town, directions, start, kept):
    """The stops at which the walker stands, and how the walk ends; it leaves by an end that is not kept."""
    stops = []
    been = {}
    stop = town[start]
    state = FIRST_STATE
    while (stop, state) not in been:
        been[(stop, state)] = True
        stops.append(stop)
        done = done_at(town, directions, stop, state, kept)
        if done[0] != "go":
            return tuple(stops), done[0]
        stop = town[(stop[0], done[1])]
        state = done[2]
    return tuple(stops), "round"


def walk(town, directions, start):
    """How the walk from this stop goes: (stops, finish)."""
    return walked(town, directions, start, None)


def need_start(sketch, start):
    """Raise BadStart if this is no stop of a told street."""
    if not is_told(start, told_stops(sketch)):
        raise BadStart(start)


def need_goal(sketch, goal):
    """Raise BadGoal if this is no told crossing."""
    if goal not in [row[0] for row in sketch.crossings]:
        raise BadGoal(goal)


def placed_stops(sketch, fit):
    """The stop of the town for each stop of a told street, by this fit."""
    rounds, ways = fit
    numbers = {}
    for row, placed in zip(sketch.crossings, rounds):
        for end, number in zip(row[1], placed):
            numbers[(row[0], end)] = (row[0], number)
    return {stop: numbers[stop] for stop in told_stops(sketch)}


def kept_stops(sketch, fit):
    """The stops of the town that are on the told streets and their ways, by this fit, as the keys of a dict."""
    kept = {stop: True for stop in placed_stops(sketch, fit).values()}
    for name, one, other in [row for way in fit[1] for row in way]:
        kept[(name, one)] = True
        kept[(name, other)] = True
    return kept


def led(sketch, town, fit, directions, start, goal):
    """How the walk from this stop of the sketch ends, if it ends as soon as it leaves the sketch."""
    if not is_fit(sketch, town, fit):
        raise BadFit(fit)
    need_start(sketch, start)
    need_goal(sketch, goal)
    stops, finish = walked(town, directions, placed_stops(sketch, fit)[start], kept_stops(sketch, fit))
    if finish != "here":
        return finish
    return "comes" if stops[-1][0] == goal else "wrong"
