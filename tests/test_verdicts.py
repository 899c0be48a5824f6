"""Promise 10: verdicts; promise 3, (a) to (f)."""

import itertools
import unittest

from samples import (FACTS, any_values, all_fillings, caught, cost_of_fit, example_directions, example_sketch,
                     filled_town, sketch_of)
from sketchways.directions import Directions
from sketchways.errors import BadGoal, BadStart, BadWish
from sketchways.fits import shows_fit
from sketchways.judging import shows_verdict, verdict
from sketchways.towns import Town
from sketchways.walking import led

FIRST = (-1,)
STATION = ("station", "s")
WISHES = ("comes", "stays", "true")
BREAKING = {"comes": ("wrong", "leaves", "lost", "round"), "true": ("wrong",), "stays": ("leaves", "lost")}
# By these facts, and none of a sign, nothing is left open but further signs.
CLOSED = (("clear", "baker", "p"), ("clear", "bridge", "a"), ("full", "baker"), ("full", "bridge"), ("full", "station"),
          ("shut", "baker", "p"), ("shut", "bridge", "a"), ("shut", "bridge", "b"), ("shut", "bridge", "c"),
          ("shut", "station", "s"))

# What the walker of the examples asks in the second sketch of them.
PLAIN, PASSED = ((("along", 1), (1, FIRST), ("out", 0, FIRST)), (("along", 1), (1, FIRST), ("out", 0, (1,))))
PLAIN_LEFT = (("at", "bridge"), ("a", FIRST), ("go", "b", (2,)))
PASSED_LEFT = (("at", "bridge"), ("a", (1,)), ("go", "b", (2,)))
OUT = (("along", 0), (1, (2,)), ("out", 0, (2,)))
CASES = (
    (("along", 0), (1, (2,)), (PLAIN, PLAIN_LEFT)),
    (("along", 0), (1, (2,)), (PASSED, PASSED_LEFT)),
    (("along", 1), (1, FIRST), ()),
    (("at", "baker"), ("p", (2,)), (OUT, PLAIN, PLAIN_LEFT)),
    (("at", "baker"), ("p", (2,)), (OUT, PASSED, PASSED_LEFT)),
    (("at", "bridge"), ("a", FIRST), (PLAIN,)),
    (("at", "bridge"), ("a", (1,)), (PASSED,)),
)


def lines(*rows):
    return "\n".join(rows)


class VerdictCase(unittest.TestCase):
    def assert_kept(self, sketch, text, start, goal, wish, many=None):
        with self.subTest(text=text, start=start, goal=goal, wish=wish):
            directions = Directions(text)
            found = verdict(sketch, directions, start, goal, wish)
            self.assertEqual(("kept", 2), (found[0], len(found)))
            self.assertEqual(tuple(sorted(set(found[1]))), found[1])
            if many is not None:
                self.assertEqual(many, len(found[1]))
            self.assertIs(True, shows_verdict(sketch, directions, start, goal, wish, found))
            turned = verdict(~sketch, ~directions, start, goal, wish)
            self.assertEqual(("kept", len(found[1])), (turned[0], len(turned[1])))

    def assert_broken(self, sketch, text, start, goal, wish, cost, how=None):
        with self.subTest(text=text, start=start, goal=goal, wish=wish):
            directions = Directions(text)
            found = verdict(sketch, directions, start, goal, wish)
            self.assertEqual(("broken", 3), (found[0], len(found)))
            town, fit = found[1:]
            self.assertIs(Town, town.__class__)
            self.assertIs(True, shows_fit(sketch, town, fit))
            self.assertIn(led(sketch, town, fit, directions, start, goal), (how,) if how else BREAKING[wish])
            self.assertEqual(cost, cost_of_fit(sketch, town, fit))
            self.assertIs(True, shows_verdict(sketch, directions, start, goal, wish, found))
            turned = verdict(~sketch, ~directions, start, goal, wish)
            self.assertEqual(("broken", cost), (turned[0], cost_of_fit(~sketch, turned[1], turned[2])))

    def assert_how(self, sketch, text, start, goal, how):
        """The only way in which the walk can end, in the sketch alone."""
        for wish in WISHES:
            if how in BREAKING[wish]:
                self.assert_broken(sketch, text, start, goal, wish, 0, how)
            else:
                self.assert_kept(sketch, text, start, goal, wish)


class ExampleTest(VerdictCase):
    def test_broken(self):
        found = verdict(example_sketch(), example_directions(), STATION, "baker", "comes")
        self.assertEqual(("broken", 1), (found[0], cost_of_fit(example_sketch(), found[1], found[2])))
        self.assert_broken(example_sketch(), example_directions().text, STATION, "baker", "comes", 1)
        self.assert_broken(example_sketch(), example_directions().text, STATION, "baker", "true", 1, "wrong")
        self.assert_broken(example_sketch(), example_directions().text, STATION, "baker", "stays", 1, "leaves")

    def test_kept(self):
        for wish in WISHES:
            self.assertEqual(("kept", CASES), verdict(example_sketch(FACTS), example_directions(), STATION, "baker",
                                                      wish))
            self.assert_kept(example_sketch(FACTS), example_directions().text, STATION, "baker", wish, 7)

    def test_each_fact_is_needed(self):
        for left_out, cost, how in zip(FACTS, (1, 2, 1), ("wrong", "lost", "leaves")):
            facts = tuple(fact for fact in FACTS if fact != left_out)
            self.assert_broken(example_sketch(facts), example_directions().text, STATION, "baker", "comes", cost, how)

    def test_names_of_arguments(self):
        named = {"wish": "comes", "goal": "baker", "start": STATION, "directions": example_directions(),
                 "sketch": example_sketch(FACTS)}
        self.assertEqual(("kept", CASES), verdict(**named))
        self.assertIs(True, shows_verdict(value=("kept", CASES), **named))


class WishTest(VerdictCase):
    def assert_closed(self, text, start, goal, how):
        self.assert_how(example_sketch(CLOSED), text, start, goal, how)

    def test_comes(self):
        self.assert_closed(example_directions().text, STATION, "baker", "comes")
        self.assert_closed("here", STATION, "bridge", "comes")
        self.assert_closed("go back\nhere", STATION, "station", "comes")
        self.assert_closed("here", ("bridge", "a"), "station", "comes")
        self.assert_closed("go back\nhere", ("bridge", "b"), "bridge", "comes")

    def test_wrong(self):
        self.assert_closed(example_directions().text, STATION, "bridge", "wrong")
        self.assert_closed("here", STATION, "station", "wrong")
        self.assert_closed("here", ("baker", "p"), "baker", "wrong")

    def test_leaves(self):
        self.assert_closed("go on\nhere", STATION, "baker", "leaves")
        self.assert_closed("go left 1\nhere", ("baker", "p"), "baker", "leaves")

    def test_lost(self):
        self.assert_closed("go left 1", STATION, "baker", "lost")
        self.assert_closed("go right 1\nhere", STATION, "baker", "lost")
        self.assert_closed("if sign bread\n  here", STATION, "baker", "lost")

    def test_round_as_the_walker_acts_round(self):
        self.assert_closed(lines("while sign bridge", "  if right", "    here"), STATION, "baker", "round")

    def test_round_over_cases(self):
        self.assert_closed("while sign bridge\n  go back", ("baker", "p"), "baker", "lost")
        self.assert_closed("until sign inn\n  go back", ("baker", "p"), "baker", "round")
        self.assert_closed(lines("until sign inn", "  go back", "  go left 1"), STATION, "baker", "lost")
        self.assert_closed(lines("until sign inn", "  go left 1", "  go back", "  go right 1", "  go back"), STATION,
                           "baker", "round")

    def test_round_as_streets_are_a_ring(self):
        ring = sketch_of([("a", ("p", "q"), (("p", "q"),), ()), ("b", ("p", "q"), (("p", "q"),), ())],
                         "a.p-b.q a.q-b.p")
        full = sketch_of(ring.crossings, "a.p-b.q a.q-b.p", [fact for fact in ring.tellable() if fact[0] != "only"])
        self.assert_how(full, "until sign inn\n  go on\nhere", ("a", "p"), "a", "round")
        loop = sketch_of([("a", ("p", "q"), (("p", "q"),), ())], "a.p-a.q")
        full = sketch_of(loop.crossings, "a.p-a.q", [fact for fact in loop.tellable() if fact[0] != "only"])
        self.assert_how(full, "until sign inn\n  go on\nhere", ("a", "q"), "a", "round")
        self.assert_how(full, "go on\ngo on\nhere", ("a", "q"), "a", "comes")


class LeastTest(VerdictCase):
    def sign(self, word):
        """A sketch in which just one further sign at one end of a street, or on it, is left open."""
        return sketch_of([("a", ("p",), (), ()), ("b", ("q",), (), ())], "a.p-b.q",
                         [("clear", "a", "p"), ("full", "a"), ("shut", "a", "p"), ("shut", "b", "q"), ("only", word)])

    def test_signs(self):
        start = ("a", "p")
        self.assert_broken(self.sign("elm"), "if sign inn\n  go on\nhere", start, "b", "comes", 1, "lost")
        self.assert_kept(self.sign("inn"), "if sign inn\n  go on\nhere", start, "b", "comes")
        text = lines("if sign inn", "  if sign oak", "    go on", "here")
        self.assert_broken(self.sign("elm"), text, start, "b", "comes", 2, "lost")
        text = lines("if not sign inn", "  here", "if sign oak", "  go on", "if sign fir", "  go on", "here")
        self.assert_broken(self.sign("elm"), text, start, "b", "comes", 2, "lost")
        text = lines("if not sign inn", "  here", "if sign oak", "  if sign fir", "    if sign ash", "      go on",
                     "here")
        self.assert_broken(self.sign("elm"), text, start, "b", "stays", 4, "lost")

    def test_further_ends(self):
        for text, cost, how in (("if ends 1\n  go on\nhere", 1, "lost"), ("if ends 4\n  go on\nhere", 4, "lost"),
                                ("if ends 2\n  go left 2\nhere", 2, "leaves"),
                                ("if ends 3\n  go back\nhere", 3, "wrong"),
                                ("while ends 3\n  if not left\n    here\nhere", 3, "round")):
            sketch = sketch_of([("a", ("p",), (), ()), ("b", ("q",), (), ())], "a.p-b.q",
                               [("clear", "a", "p"), ("full", "a"), ("shut", "a", "p")])
            self.assert_broken(sketch, text, ("a", "p"), "b", "comes", cost, how)
            self.assert_kept(sketch_of(sketch.crossings, "a.p-b.q", [*sketch.facts, ("shut", "b", "q")]), text,
                             ("a", "p"),
                             "b", "comes")

    def test_further_crossings(self):
        sketch = sketch_of([("a", ("p",), (), ()), ("b", ("q",), (), ("church",))], "a.p-b.q",
                           [("full", "b"), ("shut", "a", "p"), ("shut", "b", "q")])
        self.assert_broken(sketch, "here", ("a", "p"), "b", "comes", 1, "wrong")
        self.assert_broken(sketch, "if sign church\n  here", ("a", "p"), "b", "comes", 1, "lost")
        self.assert_broken(sketch, "if sign church\n  here", ("a", "p"), "b", "true", 2, "wrong")
        self.assert_broken(sketch, lines("until sign church", "  go on", "here"), ("a", "p"), "b", "comes", 2, "wrong")
        self.assert_broken(sketch, lines("until sign church", "  if left", "    go left 1", "  else", "    go on",
                                         "here"),
                           ("a", "p"), "b", "stays", 2, "leaves")
        text = lines("until sign church", "  go on", "  if on", "    go on", "    if on", "      go back", "here")
        only = sketch_of(sketch.crossings, "a.p-b.q", [*sketch.facts, ("only", "church")])
        self.assert_broken(only, text, ("a", "p"), "b", "comes", 3, "lost")
        text = lines("again 3", "  if on", "    go on", "if on", "  go back", "here")
        self.assert_broken(only, text, ("a", "p"), "b", "comes", 4)

    def test_round_costs_what_is_known_by_then(self):
        sketch = sketch_of([("a", ("p",), (), ("oak",)), ("b", ("q",), (), ())], "a.p-b.q",
                           [("clear", "a", "p"), ("shut", "a", "p"), ("full", "a"), ("only", "oak")])
        text = lines("while sign inn", "  go back", "  if left", "    here", "  go back", "here")
        self.assert_broken(sketch, text, ("a", "p"), "b", "comes", 1, "round")
        self.assert_kept(sketch, text, ("a", "p"), "b", "true")
        self.assert_kept(sketch, text, ("a", "p"), "b", "stays")
        text = lines("while sign inn", "  if ends 2", "    go back", "    if not left", "      go back", "here")
        self.assert_broken(sketch, text, ("a", "p"), "b", "comes", 1)
        text = lines("while sign inn", "  if not ends 2", "    here", "  go back", "  go back", "here")
        self.assert_broken(sketch, text, ("a", "p"), "b", "comes", 3, "round")

    def test_several_places(self):
        sketch = sketch_of([("a", ("p",), (), ()), ("b", ("q", "r"), (("q", "r"),), ()), ("c", ("s",), (), ())],
                           "a.p-b.q b.r-c.s", [("clear", "a", "p"), ("clear", "b", "r"), ("only", "oak")])
        text = lines("if left", "  go on", "  if ends 2", "    here", "  here", "else", "  go on", "here")
        self.assert_broken(sketch, text, ("a", "p"), "a", "true", 0, "wrong")
        self.assert_kept(sketch, text, ("a", "p"), "c", "comes")
        text = lines("if not right", "  go on", "  here", "go on", "if sign inn", "  go back", "here")
        self.assert_broken(sketch, text, ("a", "p"), "c", "comes", 2, "wrong")

    def test_no_town_of_less_cost(self):
        texts = (example_directions().text, lines("if left", "  go left 2", "until sign inn", "  go on", "here"),
                 lines("while on", "  go on", "if ends 2", "  go right 1", "here"),
                 lines("if not left", "  go back", "if sign inn", "  go left 1", "go back", "here"))
        sketch = sketch_of([("a", ("p", "q"), (("p", "q"),), ()), ("b", ("r",), (), ("bridge",))], "a.p-b.r")
        for text, wish, goal in itertools.product(texts, WISHES, ("a", "b")):
            directions = Directions(text)
            found = verdict(sketch, directions, ("b", "r"), goal, wish)
            cost = 4 if found[0] == "kept" else cost_of_fit(sketch, found[1], found[2])
            for less in range(min(cost, 4)):
                for fillings in all_fillings(sketch, directions.signs, less):
                    town, fit = filled_town(sketch, fillings)
                    self.assertNotIn(led(sketch, town, fit, directions, ("b", "r"), goal), BREAKING[wish])


class TownTest(VerdictCase):
    def test_names_of_the_sketch_are_not_given_again(self):
        names = ("a", "b", "c", "d", "e")
        crossings = [(name, ("p", "q", "r", "s"), (), ()) for name in names]
        facts = [("shut", name, "p") for name in names]
        sketch = sketch_of(crossings, "a.p-b.p", facts)
        text = lines("if ends 4", "  go on", "  if ends 4", "    go on", "    if ends 4", "      here")
        self.assert_broken(sketch, text, ("a", "p"), "b", "true", 12, "wrong")
        town = verdict(sketch, Directions(text), ("a", "p"), "b", "true")[1]
        self.assertLessEqual(set(names), set(town.names))

    def test_many_further_crossings(self):
        crossings = [(name, ("p", "q", "r", "s"), (), ()) for name in ("v", "w", "x", "y", "z")]
        sketch = sketch_of(crossings, "v.p-w.p", [("shut", row[0], "p") for row in crossings])
        text = lines(*["again 3", "  until ends 4", "    if ends 4", "      here", "  go on"] * 3, "here")
        self.assert_broken(sketch, text, ("v", "p"), "z", "true", 36, "wrong")
        town, fit = verdict(sketch, Directions(text), ("v", "p"), "z", "true")[1:]
        # What further ends, and those that lead off, are joined to is no part of the way.
        self.assertEqual(9, len(fit[1][0]))
        self.assertTrue(all(1 <= len(name) <= 8 for name in town.names))

    def test_what_leads_off_and_rings(self):
        sketch = sketch_of([("a", ("p", "q", "r"), (("p", "r"),), ()), ("b", ("p",), (), ())], "a.p-a.q",
                           [("full", "a"), ("shut", "b", "p")])
        self.assert_broken(sketch, "go on\nhere", ("a", "q"), "b", "stays", 0, "leaves")
        self.assert_broken(sketch, "here", ("a", "q"), "b", "true", 0, "wrong")
        self.assert_broken(sketch, "here", ("a", "p"), "a", "comes", 1, "wrong")


class KeptTest(VerdictCase):
    """Promise 3, (c): what is unknown is the same when the walker comes there again."""

    def test_a_crossing_that_is_seen_twice(self):
        sketch = sketch_of([("a", ("p",), (), ("oak",)), ("b", ("q",), (), ())], "a.p-b.q",
                           [("clear", "a", "p"), ("full", "a"), ("shut", "a", "p"), ("only", "oak")])
        text = lines("if sign inn", "  go back", "  go back", "  if not sign inn", "    go on", "here")
        self.assert_kept(sketch, text, ("a", "p"), "b", "comes", 6)
        text = lines("if ends 2", "  go back", "  go back", "  if not ends 2", "    go on", "here")
        self.assert_kept(sketch, text, ("a", "p"), "b", "comes")
        text = lines("if ends 2", "  go back", "  go back", "  if not ends 3", "    go on", "here")
        self.assert_broken(sketch, text, ("a", "p"), "b", "comes", 2, "lost")

    def test_a_street_that_is_passed_twice(self):
        sketch = sketch_of([("a", ("p",), (), ("oak",)), ("b", ("q",), (), ("oak",))], "a.p-b.q",
                           [("full", "a"), ("full", "b"), ("shut", "a", "p"), ("shut", "b", "q"), ("only", "oak")])
        text = lines("while not sign oak", "  go on", "go back", "while not sign oak", "  go on", "here")
        self.assert_kept(sketch, text, ("a", "p"), "a", "comes")
        text = lines("if not sign oak", "  go on", "  until sign oak", "    go on", "  go back", "  if sign oak",
                     "    here",
                     "  go on")
        self.assert_kept(sketch, text, ("b", "q"), "a", "true")
        text = lines("if not sign oak", "  if left", "    here", "  go on", "  until sign oak", "    go on",
                     "  go back",
                     "until sign oak", "  go on", "here")
        self.assert_broken(sketch, text, ("a", "p"), "a", "comes", 0)


class MoreTest(VerdictCase):
    """Promise 3, (d) and (f), and that a verdict hangs on nothing else."""

    def test_more_facts(self):
        texts = (example_directions().text, lines("while not sign bridge", "  go on", "if left", "  go left 1", "here"))
        for text, wish in itertools.product(texts, WISHES):
            kept = {}
            for some in itertools.chain.from_iterable(itertools.combinations(FACTS, k) for k in range(4)):
                kept[some] = verdict(example_sketch(some), Directions(text), STATION, "baker", wish)[0] == "kept"
            for some, more in itertools.product(kept, kept):
                if set(some) <= set(more):
                    self.assertLessEqual(kept[some], kept[more])

    def test_wishes(self):
        kept = 0
        for facts, text in itertools.product(((), FACTS, CLOSED),
                                             (example_directions().text, "here", "go left 1\nhere")):
            for start, goal in itertools.product((STATION, ("baker", "p"), ("bridge", "b")), ("baker", "bridge")):
                sketch, directions = example_sketch(facts), Directions(text)
                if verdict(sketch, directions, start, goal, "comes")[0] == "kept":
                    kept += 1
                    self.assert_kept(sketch, text, start, goal, "true")
                    self.assert_kept(sketch, text, start, goal, "stays")
        self.assertGreater(kept, 3)

    def test_cases_hang_on_no_wish(self):
        found = {verdict(example_sketch(CLOSED), Directions("here"), STATION, "bridge", wish)[1] for wish in WISHES}
        self.assertEqual({((("along", 1), (1, FIRST), ()),
                           (("at", "bridge"), ("a", FIRST), ((("along", 1), (1, FIRST), ("out", 0, FIRST)),)))}, found)
        self.assert_kept(example_sketch(), "go on\ngo on", STATION, "baker", "true", 4)

    def test_a_sketch_that_is_changed_in_between(self):
        sketch, directions = example_sketch(), example_directions()
        for fact in FACTS:
            self.assertEqual("broken", verdict(sketch, directions, STATION, "baker", "comes")[0])
            sketch.tell(fact)
        self.assertEqual(("kept", CASES), verdict(sketch, directions, STATION, "baker", "comes"))
        self.assertEqual(("kept", CASES), verdict(sketch, directions, STATION, "baker", "comes"))
        self.assertTrue(sketch == example_sketch(FACTS) and directions == example_directions())
        sketch.forget(FACTS[0])
        self.assertEqual("broken", verdict(sketch, directions, STATION, "baker", "comes")[0])


class ErrorsTest(unittest.TestCase):
    def raised(self, error, start, goal, wish):
        values = []
        for call in (verdict, lambda *rest: shows_verdict(*rest, ("kept", CASES)),
                     lambda *rest: shows_verdict(*rest, 1)):
            values.append(caught(self, error, call, example_sketch(FACTS), example_directions(), start, goal,
                                 wish).value)
        self.assertTrue(all(value is values[0] for value in values))
        return values[0]

    def test_any_values(self):
        for value in any_values():
            self.assertIs(value, self.raised(BadStart, value, "baker", "comes"))
            self.assertIs(value, self.raised(BadGoal, STATION, value, "comes"))
            self.assertIs(value, self.raised(BadWish, STATION, "baker", value))

    def test_starts(self):
        for start in (("bridge", "c"), ("yard", "p"), ("station", "p"), ("station", 0), ["station", "s"], "station",
                      (("station", "s"), 1), ("station", "s", 0)):
            self.assertIs(start, self.raised(BadStart, start, "baker", "comes"))

    def test_goals_and_wishes(self):
        for goal in ("yard", "bread", ("baker", "p"), ("baker",), ""):
            self.assertIs(goal, self.raised(BadGoal, STATION, goal, "comes"))
        for wish in ("wrong", "leaves", "kept", "come", "Comes", ("comes",), ["true"], True):
            self.assertIs(wish, self.raised(BadWish, STATION, "baker", wish))

    def test_order(self):
        self.assertEqual(1, self.raised(BadStart, 1, 2, 3))
        self.assertEqual(2, self.raised(BadGoal, STATION, 2, 3))


if __name__ == "__main__":
    unittest.main()
