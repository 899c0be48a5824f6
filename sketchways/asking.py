"""Asking: from where directions work, and which facts are worth asking for."""

from sketchways.errors import BadFacts
from sketchways.fillings import subsets
from sketchways.forms import ascends, have_heads, in_order, is_row
from sketchways.judging import Judge, judge_of, need_walk, need_wish
from sketchways.sketches import facts_of_net, is_fact, told_stops
from sketchways.walking import need_goal
from sketchways.ways import Walkers

MOST_ASKED = 6


def verdicts(sketch, directions, goal, wish):
    """The judge, and (stop, verdict) for each stop of told streets, ascending."""
    need_goal(sketch, goal)
    need_wish(wish)
    judge = judge_of(sketch, directions)
    return judge, [(stop, judge.judged(stop, goal, wish)) for stop in in_order(list(told_stops(sketch)))]


def starts(sketch, directions, goal, wish):
    """For each stop of told streets, ascending, (stop, value) with the verdict from there."""
    return tuple(verdicts(sketch, directions, goal, wish)[1])


def shows_starts(sketch, directions, goal, wish, value):
    """Whether this is what starts may return, with any correct verdicts."""
    judge, rows = verdicts(sketch, directions, goal, wish)
    if not have_heads(value, rows, 2):
        return False
    return all([judge.accepts(stop, goal, wish, found) for stop, found in value])


def need_facts(sketch, facts):
    """Raise BadFacts if these are not 1 to 6 facts, ascending, that are not told."""
    others = facts_of_net(sketch.crossings, sketch.streets)
    if not isinstance(facts, tuple) or not 1 <= len(facts) <= MOST_ASKED:
        raise BadFacts(facts)
    if not all([is_fact(fact, others) and fact not in sketch for fact in facts]) or not ascends(facts):
        raise BadFacts(facts)


def with_facts(sketch, facts):
    """This sketch with these facts, too."""
    more = sketch.copy()
    for fact in facts:
        more.tell(fact)
    return more


def without_one(some):
    """All tuples of these facts but one."""
    return [some[:k] + some[k + 1:] for k in range(len(some))]


class Asked:
    """What the verdict on a walk is by each choice of some facts that may be asked for."""

    def __init__(self, sketch, directions, walk, facts):
        walkers = Walkers([directions])
        start, goal, wish = walk
        self._walk = walk
        self._judges = {}
        self._found = {}
        for some in subsets(facts):
            # By more facts a wish that is kept stays so.
            if not any([self.keeps(less) for less in without_one(some)]):
                self._judges[some] = Judge(with_facts(sketch, some), directions, walkers)
                self._found[some] = self._judges[some].judged(start, goal, wish)

    def keeps(self, some):
        """Whether the wish is kept by these facts."""
        return some not in self._found or self._found[some][0] == "kept"

    def least(self):
        """All (some, cases), ascending, by which the wish is kept, while it is broken without any one of them."""
        return tuple([(some, self._found[some][1]) for some in in_order(list(self._found)) if self.keeps(some)])

    def greatest(self):
        """All (some, town, fit), ascending, by which it is broken, while it is kept with any one more."""
        broken = [some for some in in_order(list(self._found)) if not self.keeps(some)]
        inner = [less for some in broken for less in without_one(some)]
        return tuple([(some, *self._found[some][1:]) for some in broken if some not in inner])

    def accepts_least(self, value):
        """Whether these are the facts of the least choices, with cases that show that the wish is kept."""
        start, goal, wish = self._walk
        if not have_heads(value, self.least(), 2):
            return False
        return all([self._judges[some].accepts_kept(start, goal, wish, cases) for some, cases in value])

    def accepts_greatest(self, value):
        """Whether these are the facts of the greatest choices, with towns that show that it is broken."""
        start, goal, wish = self._walk
        if not have_heads(value, self.greatest(), 3):
            return False
        return all([self._judges[row[0]].accepts_broken(start, goal, wish, row[1:]) for row in value])


def asked(sketch, directions, start, goal, wish, facts):
    """What the verdict is by each choice of some of these facts."""
    need_walk(sketch, start, goal, wish)
    need_facts(sketch, facts)
    return Asked(sketch, directions, (start, goal, wish), facts)


def worth_asking(sketch, directions, start, goal, wish, facts):
    """The least choices of facts by which the wish is kept, and the greatest ones by which it is broken."""
    found = asked(sketch, directions, start, goal, wish, facts)
    return found.least(), found.greatest()


def shows_worth_asking(sketch, directions, start, goal, wish, facts, value):
    """Whether this is what worth_asking may return, with any cases, towns and fits that show it."""
    found = asked(sketch, directions, start, goal, wish, facts)
    return is_row(value, 2) and found.accepts_least(value[0]) and found.accepts_greatest(value[1])
