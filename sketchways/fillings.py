"""Fillings: what they say of a place, how a walker fares there, and the least ones for all that can happen there."""

from sketchways.errors import TooMany
from sketchways.forms import in_order
from sketchways.sketches import only_signs, street_ends, told_crossing
from sketchways.towns import end_taken, in_pairs, view_from

MOST_FURTHER = 4
MOST_WAYS = 400
ENDINGS = (("here",), ("lost",), ("leaves",), ("round",))
ROUND = -1


def numbers_by_end(told, counts):
    """The numbers that the ends of this told crossing have where so many further ends stand behind each."""
    return {end: k + sum(counts[:k]) for k, end in enumerate(told[1])}


def filled_crossing(told, filling):
    """This told crossing, with this filling, as a town has it."""
    name, ends, straight, signs = told
    counts, further = filling
    numbers = numbers_by_end(told, counts)
    pairs = in_pairs([(numbers[one], numbers[other]) for one, other in straight])
    return name, len(ends) + sum(counts), pairs, tuple(in_order([*signs, *further]))


def passed_crossing(name, step):
    """This step of a street as a town has it, where the side 0 of the street is behind its end 0."""
    left, right, signs = step
    return name, left + right + 2, ((0, left + 1),), signs


def done_at(directions, crossing, end, state):
    """What a walker does at this crossing of a town with this end behind: ("go", end, state), or how the walk ends."""
    done = directions.act(state, view_from(crossing, end))
    if done[0] != "go":
        return done
    taken = end_taken(crossing, end, done[1])
    return ("lost",) if taken is None else ("go", taken, done[2])


def answer_at(sketch, directions, told, filling, question):
    """The answer of a told crossing with this filling."""
    end, state = question
    numbers = numbers_by_end(told, filling[0])
    done = done_at(directions, filled_crossing(told, filling), numbers[end], state)
    if done[0] != "go":
        return done
    for other in street_ends(sketch, told[0]):
        if numbers[other] == done[1]:
            return "go", other, done[2]
    return ("leaves",)


def answer_of_step(directions, step, question):
    """The answer of a street whose filling is this one step."""
    side, state = question
    across = step[0] + 1
    done = done_at(directions, passed_crossing("", step), across if side == 1 else 0, state)
    if done[0] != "go":
        return done
    if done[1] not in (0, across):
        return ("leaves",)
    return "out", 1 if done[1] == across else 0, done[2]


def answer_along(directions, filling, question):
    """The answer of a told street with this filling."""
    side, state = question
    at = len(filling) - 1 if side == 1 else 0
    been = {}
    while 0 <= at < len(filling):
        if (at, side, state) in been:
            return ("round",)
        been[(at, side, state)] = True
        done = answer_of_step(directions, filling[at], (side, state))
        if done[0] != "out":
            return done
        # Who comes out at one side of a step comes to the next one from its other side.
        side = 1 - done[1]
        state = done[2]
        at = at + 1 if side == 0 else at - 1
    return "out", 1 - side, state


def subsets(names):
    """All ascending tuples of some of these ascending names."""
    found = [()]
    for name in names:
        found = found + [(*some, name) for some in found]
    return found


def crossing_fillings(sketch, directions, name):
    """The fillings of a told crossing that may differ in answers, each as (cost, filling), least cost first."""
    told = told_crossing(sketch, name)
    asked = [sign for sign in directions.signs if sign not in told[3] and sign not in only_signs(sketch)]
    if ("full", name) in sketch:
        asked = []
    rows = [()]
    for end in told[1]:
        most = 0 if ("shut", name, end) in sketch else MOST_FURTHER
        rows = [(*counts, k) for counts in rows for k in range(most + 1)]
    return in_order([(sum(counts) + len(signs), (counts, signs)) for counts in rows for signs in subsets(asked)])


def all_steps(sketch, directions):
    """The steps that may differ in answers, each as (cost, step), least cost first."""
    asked = [sign for sign in directions.signs if sign not in only_signs(sketch)]
    sides = [(left, right) for left in range(MOST_FURTHER + 1) for right in range(MOST_FURTHER + 1)]
    rows = [(left, right, signs) for left, right in sides for signs in subsets(asked)]
    return in_order([(1 + left + right + len(signs), (left, right, signs)) for left, right, signs in rows])


# How a street answers all questions is kept as its way: a tuple with a number for each question. Where the directions
# have n states, the question of side s in the state k stands at s * n + k, and this is also the number of the answer
# to come out there; the answers by which the walk ends have negative numbers, those of their places in ENDINGS.


def way_of_step(directions, step):
    """The way of a street whose filling is this one step."""
    states = directions.states
    numbers = {(side, state): side * len(states) + k for side in (0, 1) for k, state in enumerate(states)}
    found = []
    for question in numbers:
        told = answer_of_step(directions, step, question)
        found.append(numbers[told[1:]] if told[0] == "out" else ENDINGS.index(told) - len(ENDINGS))
    return tuple(found)


def at_border(one, other, many, number):
    """What becomes of who comes out of the first one of two ways, one behind the other, with this answer."""
    # In so many steps to the second one some state comes again.
    for _ in range(many + 1):
        if number < many:
            return number
        number = other[number - many]
        if number < 0 or number >= many:
            return number
        number = one[many + number]
    return ROUND


def joined(one, other, many):
    """The way of a street with the second way behind the first one, where the directions have so many states."""
    found = [at_border(one, other, many, one[k]) for k in range(many)]
    for k in range(many, 2 * many):
        number = other[k]
        back = 0 <= number < many
        found.append(at_border(one, other, many, one[many + number]) if back else number)
    return tuple(found)


def ways_by_steps(steps, many):
    """For each way of streets of these steps, each (cost, step, way), the (cost, filling) of a least filling."""
    still = tuple(range(many, 2 * many)) + tuple(range(many))
    found = {still: (0, ())}
    waiting = {0: [still]}
    cost = 0
    while waiting:
        # A way that was reached at a lower cost later on has been gone on from there.
        ready = [way for way in waiting.pop(cost, []) if found[way][0] == cost]
        for way in ready:
            for more, step, behind in steps:
                longer = joined(way, behind, many)
                if longer not in found or found[longer][0] > cost + more:
                    found[longer] = (cost + more, (*found[way][1], step))
                    waiting.setdefault(cost + more, []).append(longer)
            if len(found) > MOST_WAYS:
                raise TooMany(MOST_WAYS)
        cost += 1
    return found


def street_ways(sketch, directions, number):
    """The ways of this told street, each as (cost, filling, way), least cost first."""
    steps = {}
    if ("clear", *sketch.streets[number][0]) not in sketch:
        for cost, step in all_steps(sketch, directions):
            steps.setdefault(way_of_step(directions, step), (cost, step))
    rows = [(cost, step, way) for way, (cost, step) in steps.items()]
    found = ways_by_steps(rows, len(directions.states))
    return in_order([(cost, filling, way) for way, (cost, filling) in found.items()])


class CrossingWays:
    """The fillings of a told crossing, each as (cost, filling), least cost first, and their answers."""

    def __init__(self, sketch, directions, name):
        self.fillings = crossing_fillings(sketch, directions, name)
        self._sketch = sketch
        self._directions = directions
        self._told = told_crossing(sketch, name)

    def answers(self, question):
        """The answer of each filling to this question."""
        return [answer_at(self._sketch, self._directions, self._told, filling, question)
                for cost, filling in self.fillings]


class StreetWays:
    """A filling for each way of a told street, as (cost, filling), least cost first, and their answers."""

    def __init__(self, sketch, directions, number):
        rows = street_ways(sketch, directions, number)
        self.fillings = [(cost, filling) for cost, filling, way in rows]
        self._ways = [way for cost, filling, way in rows]
        self._states = directions.states

    def answers(self, question):
        """The answer of each filling to this question."""
        at = question[0] * len(self._states) + self._states.index(question[1])
        return [self._answer(way[at]) for way in self._ways]

    def _answer(self, number):
        if number < 0:
            return ENDINGS[number]
        return "out", number // len(self._states), self._states[number % len(self._states)]
