"""Verdicts: whether a wish about a walk is kept in every town that holds a sketch."""

from sketchways.cases import Unknown, cases_round, endings, with_answer
from sketchways.errors import BadWish
from sketchways.fits import is_fit
from sketchways.forms import in_order, is_row
from sketchways.towns import Town
from sketchways.walking import led, need_goal, need_start
from sketchways.ways import Walkers

BREAKING = {"comes": ("wrong", "leaves", "lost", "round"), "true": ("wrong",), "stays": ("leaves", "lost")}


def need_wish(wish):
    """Raise BadWish if this is no wish."""
    if not isinstance(wish, str) or wish not in BREAKING:
        raise BadWish(wish)


def how_it_ends(case, told, goal):
    """How the walk ends by this answer of this case."""
    if told != ("here",):
        return told[0]
    return "comes" if case[0] == ("at", goal) else "wrong"


def known_where_broken(found, goal, wish):
    """What is known where one of these cases ends, or goes round, in a way that breaks the wish."""
    breaking = BREAKING[wish]
    rows = [with_answer(case, told) for case, told in endings(found) if how_it_ends(case, told, goal) in breaking]
    return rows + [case[2] for case in cases_round(found) if "round" in breaking]


def need_walk(sketch, start, goal, wish):
    """Raise BadStart, BadGoal or BadWish if this is not as it should be."""
    need_start(sketch, start)
    need_goal(sketch, goal)
    need_wish(wish)


class Judge:
    """Who gives verdicts on walks by some directions, and knows correct ones, where a sketch is told."""

    def __init__(self, sketch, directions, walkers):
        self._sketch = sketch
        self._directions = directions
        self._unknown = Unknown(sketch, walkers)

    def judged(self, start, goal, wish):
        """The verdict."""
        found = self._unknown.all_cases(start)
        least = self._unknown.least_town(known_where_broken(found, goal, wish))
        if least is None:
            return "kept", tuple(in_order(list(found)))
        return "broken", least[0], least[1]

    def accepts(self, start, goal, wish, value):
        """Whether this is a correct verdict."""
        if is_row(value, 2) and value[0] == "kept":
            return self.accepts_kept(start, goal, wish, value[1])
        if not is_row(value, 3) or value[0] != "broken":
            return False
        return self.accepts_broken(start, goal, wish, value[1:])

    def accepts_kept(self, start, goal, wish, cases):
        """Whether these cases show that the wish is kept."""
        found = self._unknown.closed(start, cases)
        return found is not None and known_where_broken(found, goal, wish) == []

    def accepts_broken(self, start, goal, wish, shown):
        """Whether this shows that the wish is broken: a town, and its fit."""
        town, told = shown
        if not isinstance(town, Town) or not is_fit(self._sketch, town, told):
            return False
        return led(self._sketch, town, told, self._directions, start, goal) in BREAKING[wish]


def judge_of(sketch, directions):
    """Who judges walks by these directions where this sketch is told."""
    return Judge(sketch, directions, Walkers([directions]))


def verdict(sketch, directions, start, goal, wish):
    """("kept", cases), or ("broken", town, fit) with a town of least cost."""
    need_walk(sketch, start, goal, wish)
    return judge_of(sketch, directions).judged(start, goal, wish)


def shows_verdict(sketch, directions, start, goal, wish, value):
    """Whether this is a correct verdict, perhaps with more cases, or a town of higher cost."""
    need_walk(sketch, start, goal, wish)
    judge = judge_of(sketch, directions)
    # A correct verdict is asked for, so that there may be too many ways or cases, whatever the value.
    judge.judged(start, goal, wish)
    return judge.accepts(start, goal, wish, value)
