"""Ways in which places answer walkers: all that their fillings can do, and the least filling for each."""

from sketchways.directions import FIRST_STATE
from sketchways.errors import TooMany
from sketchways.fillings import ENDINGS, ENDINGS_OF_TWO, all_steps, answer_at, answer_of_step, crossing_fillings
from sketchways.fillings import limits_of, placed_crossing, signs_along, signs_at, together
from sketchways.forms import in_order
from sketchways.sketches import street_ends, told_crossing
from sketchways.towns import end_taken, view_from

MOST_WAYS = 400
ROUND = -1


# How a street answers all questions is kept as its way: a tuple with a number for each question. Where there are n
# states (of one walker, or n pairs of states of two), the question of side s in the state k stands at s * n + k, and
# this is also the number of the answer to come out there; the answers by which the walk ends have negative numbers,
# those of their places among the endings.


def at_border(one, other, many, number):
    """What becomes of who comes out of the first one of two ways, one behind the other, with this answer."""
    # In so many steps to the second one some state comes again.
    for _ in range(many + 1):
        if number < many:
            return number
        number = other[number - many]
        if number < 0 or number >= many:
            return number
        number = one[many + number]
    return ROUND


def joined(one, other, many):
    """The way of a street with the second way behind the first one, where there are so many states."""
    found = [at_border(one, other, many, one[k]) for k in range(many)]
    for k in range(many, 2 * many):
        number = other[k]
        back = 0 <= number < many
        found.append(at_border(one, other, many, one[many + number]) if back else number)
    return tuple(found)


def ways_by_steps(steps, many):
    """For each way of streets of these steps, each (cost, step, way), the (cost, filling) of a least filling."""
    still = tuple(range(many, 2 * many)) + tuple(range(many))
    found = {still: (0, ())}
    waiting = {0: [still]}
    cost = 0
    while waiting:
        # A way that was reached at a lower cost later on has been gone on from there.
        ready = [way for way in waiting.pop(cost, []) if found[way][0] == cost]
        for way in ready:
            for more, step, behind in steps:
                longer = joined(way, behind, many)
                if longer not in found or found[longer][0] > cost + more:
                    found[longer] = (cost + more, (*found[way][1], step))
                    waiting.setdefault(cost + more, []).append(longer)
            if len(found) > MOST_WAYS:
                raise TooMany(MOST_WAYS)
        cost += 1
    return found


def numbers_of(questions, endings):
    """The number of each answer of a street to these questions, which are all that may be asked of it."""
    found = {("out", *question): k for k, question in enumerate(questions)}
    for k, told in enumerate(endings):
        found[told] = k - len(endings)
    return found


def least_steps(walkers, questions, endings, signs):
    """For each way of a street of one step, with some of these signs, its least step: (cost, step, way)."""
    alike = {}
    for cost, step in all_steps(signs):
        alike.setdefault(tuple([walker.answers_of_step(step) for walker in walkers]), (cost, step))
    numbers = numbers_of(questions, endings)
    found = {}
    for rows, least in alike.items():
        by_question = [dict(row) for row in rows]
        way = [numbers[together([row[(side, state)] for row, state in zip(by_question, states)])]
               for side, *states in questions]
        found.setdefault(tuple(way), least)
    return [(cost, step, way) for way, (cost, step) in found.items()]


class Walker:
    """Who goes by directions; what is done at a crossing is worked out once for each view."""

    def __init__(self, directions):
        self._directions = directions
        self._acts = {}
        self._steps = {}

    def done(self, crossing, end, state):
        """What is done at this crossing of a town with this end behind: ("go", end, state), or how the walk ends."""
        view = view_from(crossing, end)
        if (state, view) not in self._acts:
            self._acts[(state, view)] = self._directions.act(state, view)
        act = self._acts[(state, view)]
        if act[0] != "go":
            return act
        taken = end_taken(crossing, end, act[1])
        return ("lost",) if taken is None else ("go", taken, act[2])

    def answers_of_step(self, step):
        """The tuple of (question, answer) of a street of this one step, for all questions to it."""
        left, right, signs = step
        seen = (left, right, tuple([sign for sign in signs if sign in self._directions.signs]))
        if seen not in self._steps:
            questions = [(side, state) for side in (0, 1) for state in self._directions.states]
            rows = [(question, answer_of_step(self, seen, question)) for question in questions]
            self._steps[seen] = tuple(rows)
        return self._steps[seen]


class CrossingWays:
    """The fillings of a told crossing, each as (cost, filling), least cost first, and their answers."""

    def __init__(self, walkers, told, ends, limits, signs):
        self.fillings = crossing_fillings(limits, signs)
        self._walkers = walkers
        self._placed = [placed_crossing(told, ends, filling) for cost, filling in self.fillings]
        self._single = {}
        self._answers = {}

    def answers(self, question):
        """The answer of each filling to this question."""
        if question not in self._answers:
            columns = [self._column(k, (question[0], state)) for k, state in enumerate(question[1:])]
            self._answers[question] = [together(row) for row in zip(*columns)]
        return self._answers[question]

    def _column(self, number, question):
        if (number, question) not in self._single:
            walker = self._walkers[number]
            self._single[(number, question)] = [answer_at(walker, placed, question) for placed in self._placed]
        return self._single[(number, question)]


class StreetWays:
    """A filling for each way of a told street, as (cost, filling), least cost first, and their answers."""

    def __init__(self, questions, endings, steps):
        found = ways_by_steps(steps, len(questions) // 2)
        rows = in_order([(cost, filling, way) for way, (cost, filling) in found.items()])
        self.fillings = [(cost, filling) for cost, filling, way in rows]
        self._ways = [way for cost, filling, way in rows]
        self._questions = questions
        self._endings = endings

    def answers(self, question):
        """The answer of each filling to this question."""
        at = self._questions.index(question)
        return [self._answer(way[at]) for way in self._ways]

    def _answer(self, number):
        return self._endings[number] if number < 0 else ("out", *self._questions[number])


class Walkers:
    """One walker, or two who go together, and the ways in which places answer them, each worked out once."""

    def __init__(self, leading):
        self.endings = ENDINGS if len(leading) == 1 else ENDINGS_OF_TWO
        self.firsts = tuple([FIRST_STATE for _ in leading])
        self.all_states = [directions.states for directions in leading]
        self._all_signs = in_order(list({sign: True for directions in leading for sign in directions.signs}))
        self._walkers = [Walker(directions) for directions in leading]
        self._found = {}

    def ways(self, sketch, place):
        """The ways in which this place of the sketch answers."""
        if place[0] == "at":
            return self._at(sketch, place[1])
        if ("clear", *sketch.streets[place[1]][0]) in sketch:
            return self._along(None)
        return self._along(signs_along(sketch, self._all_signs))

    def _at(self, sketch, name):
        told = told_crossing(sketch, name)
        ends = tuple(street_ends(sketch, name))
        limits = limits_of(sketch, name)
        signs = signs_at(sketch, name, self._all_signs)
        if (told, ends, limits, signs) not in self._found:
            self._found[(told, ends, limits, signs)] = CrossingWays(self._walkers, told, ends, limits, signs)
        return self._found[(told, ends, limits, signs)]

    def _along(self, signs):
        if signs not in self._found:
            rows = [()]
            for states in self.all_states:
                rows = [(*row, state) for row in rows for state in states]
            questions = [(side, *row) for side in (0, 1) for row in rows]
            steps = [] if signs is None else least_steps(self._walkers, questions, self.endings, signs)
            self._found[signs] = StreetWays(questions, self.endings, steps)
        return self._found[signs]
