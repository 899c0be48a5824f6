"""Promise 11: starts and shows_starts."""

import unittest

from samples import FACTS, any_values, caught, cost_of_fit, example_directions, example_sketch, filled_town, sketch_of
from sketchways.asking import shows_starts, starts
from sketchways.directions import Directions
from sketchways.errors import BadGoal, BadWish
from sketchways.judging import shows_verdict, verdict

STOPS = (("baker", "p"), ("bridge", "a"), ("bridge", "b"), ("station", "s"))
PLACES = (("at", "baker"), ("at", "bridge"), ("at", "station"), ("along", 0), ("along", 1))
EMPTY = dict(zip(PLACES, (((0,), ()), ((0, 0, 0), ()), ((0,), ()), (), ())))


class StartsTest(unittest.TestCase):
    def assert_starts(self, sketch, text, goal, wish, words):
        directions = Directions(text)
        found = starts(sketch, directions, goal, wish)
        stops = sorted(stop for street in sketch.streets for stop in street)
        self.assertEqual(tuple(stops), tuple(row[0] for row in found))
        self.assertEqual(words, [row[1][0] for row in found])
        for stop, value in found:
            expected = verdict(sketch, directions, stop, goal, wish)
            self.assertIs(True, shows_verdict(sketch, directions, stop, goal, wish, value))
            if value[0] == "kept":
                self.assertEqual(expected, value)
            else:
                self.assertEqual(cost_of_fit(sketch, *expected[1:]), cost_of_fit(sketch, *value[1:]))
        self.assertIs(True, shows_starts(sketch, directions, goal, wish, found))

    def test_example(self):
        kept, broken = "kept", "broken"
        text = example_directions().text
        self.assert_starts(example_sketch(FACTS), text, "baker", "comes", [broken, broken, broken, kept])
        self.assert_starts(example_sketch(FACTS), text, "baker", "true", [kept, kept, kept, kept])
        self.assert_starts(example_sketch(FACTS), text, "baker", "stays", [broken, broken, broken, kept])
        self.assert_starts(example_sketch(), text, "baker", "comes", [broken] * 4)

    def test_rings(self):
        sketch = sketch_of([("a", ("p", "q"), (("p", "q"),), ()), ("b", ("r",), (), ("bridge",))], "a.p-a.q")
        self.assert_starts(sketch, "while not sign bridge\n  go on\nhere", "b", "true", ["broken", "broken"])
        self.assert_starts(sketch, "while not sign bridge\n  go back", "a", "true", ["kept", "kept"])

    def test_no_streets(self):
        sketch = sketch_of([("a", ("p",), (), ())])
        self.assertEqual((), starts(sketch, example_directions(), "a", "comes"))
        self.assertIs(True, shows_starts(sketch, example_directions(), "a", "comes", ()))
        self.assertIs(False, shows_starts(sketch, example_directions(), "a", "comes", []))
        self.assertIs(False, shows_starts(sketch, example_directions(), "a", "comes", ((("a", "p"), ("kept", ())),)))

    def test_names_of_arguments(self):
        named = {"wish": "comes", "goal": "baker", "directions": example_directions(), "sketch": example_sketch(FACTS)}
        found = starts(**named)
        self.assertIs(True, shows_starts(value=found, **named))

    def test_a_sketch_that_is_changed_in_between(self):
        sketch = example_sketch(FACTS)
        first = starts(sketch, example_directions(), "baker", "true")
        sketch.forget(FACTS[1])
        self.assertEqual(["broken"] * 2, [row[1][0] for row in starts(sketch, example_directions(), "station",
                                                                      "stays")[:2]])
        sketch.tell(FACTS[1])
        self.assertEqual(first, starts(sketch, example_directions(), "baker", "true"))


class ShowsStartsTest(unittest.TestCase):
    def setUp(self):
        self.found = starts(example_sketch(FACTS), example_directions(), "baker", "comes")

    def shown(self, value, wish="comes"):
        return shows_starts(example_sketch(FACTS), example_directions(), "baker", wish, value)

    def test_cases_and_towns(self):
        word, cases = self.found[3][1]
        self.assertIs(True, self.shown(self.found[:3] + ((STOPS[3], (word, cases[::-1])),)))
        self.assertIs(False, self.shown(self.found[:3] + ((STOPS[3], (word, cases[1:])),)))
        self.assertIs(False, self.shown(self.found[:3] + ((STOPS[3], self.found[0][1]),)))
        town, fit = filled_town(example_sketch(), {**EMPTY, ("at", "bridge"): ((0, 3, 0), ("inn",))})
        for k in (0, 1, 2):
            rows = list(self.found)
            rows[k] = (STOPS[k], ("broken", town, fit))
            self.assertIs(True, self.shown(tuple(rows)))
            self.assertIs(False, self.shown(tuple(rows), "true"))

    def test_rows(self):
        found = self.found
        self.assertIs(True, self.shown(found))
        for value in (found[:3], found + found[3:], found[1:], found[::-1], list(found), (found,),
                      found[:3] + (found[3] + (0,),), found[:3] + (found[3][:1],), found[:3] + (list(found[3]),),
                      found[:3] + ((list(STOPS[3]), found[3][1]),), found[:3] + ((STOPS[2], found[3][1]),),
                      found[:3] + ((STOPS[3], "kept"),), found[:3] + ((STOPS[3], list(found[3][1])),),
                      tuple(row[1] for row in found), tuple(row[::-1] for row in found)):
            self.assertIs(False, self.shown(value))
        for value in any_values():
            self.assertIs(False, self.shown(value))
            self.assertIs(False, self.shown(found[:3] + (value,)))
            self.assertIs(False, self.shown(found[:3] + ((value, found[3][1]),)))
            self.assertIs(False, self.shown(found[:3] + ((STOPS[3], value),)))


class ErrorsTest(unittest.TestCase):
    def raised(self, error, goal, wish):
        sketch, directions = example_sketch(FACTS), example_directions()
        value = caught(self, error, starts, sketch, directions, goal, wish).value
        self.assertIs(value, caught(self, error, shows_starts, sketch, directions, goal, wish, None).value)
        return value

    def test_any_values(self):
        for value in any_values():
            self.assertIs(value, self.raised(BadGoal, value, "comes"))
            self.assertIs(value, self.raised(BadWish, "baker", value))
        self.assertEqual(1, self.raised(BadGoal, 1, 2))
        self.assertEqual("yard", self.raised(BadGoal, "yard", "come"))
        self.assertEqual("come", self.raised(BadWish, "baker", "come"))
        sketch = sketch_of([("a", ("p",), (), ())])
        self.assertEqual("b", caught(self, BadGoal, starts, sketch, example_directions(), "b", "comes").value)
        self.assertEqual("b", caught(self, BadWish, starts, sketch, example_directions(), "a", "b").value)


if __name__ == "__main__":
    unittest.main()
