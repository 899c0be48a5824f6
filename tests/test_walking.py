"""Promise 8: walks in a town, and how they end in a sketch; promise 3, (c) and (e)."""

import unittest

from samples import (FACTS, any_values, caught, example_directions, example_sketch, example_town, sketch_of, star,
                     town_of)
from sketchways.directions import Directions
from sketchways.errors import BadFit, BadGoal, BadStart, NoStop
from sketchways.fits import fit
from sketchways.towns import Town
from sketchways.walking import led, walk

LOOP = Town((("a", 2, ((0, 1),), ()),), ((("a", 0), ("a", 1)),))


def thread(*names):
    """Crossings with two ends that go straight on to one another."""
    return [(name, 2, ((0, 1),), ()) for name in names]


def lines(*rows):
    return "\n".join(rows)


class WalkTest(unittest.TestCase):
    def assert_walk(self, town, text, start, stops, finish):
        with self.subTest(text=text, start=start):
            directions = Directions(text)
            self.assertEqual((tuple(stops), finish), walk(town, directions, start))
            ends = {row[0]: row[1] for row in town.crossings}
            mirrored = [(name, -end % ends[name]) for name, end in [start, *stops]]
            self.assertEqual((tuple(mirrored[1:]), finish), walk(~town, ~directions, mirrored[0]))

    def test_example(self):
        self.assertEqual(((("bridge", 0), ("baker", 0)), "here"),
                         walk(example_town(), example_directions(), ("station", 0)))
        self.assertEqual(((("bridge", 0), ("baker", 0)), "here"),
                         walk(start=("station", 0), town=example_town(), directions=example_directions()))

    def test_here_at_once(self):
        self.assert_walk(example_town(), "here", ("baker", 0), [("bridge", 1)], "here")
        self.assert_walk(example_town(), "here", ("bridge", 1), [("baker", 0)], "here")

    def test_choices(self):
        town = example_town()
        self.assert_walk(town, "go on\nhere", ("station", 0), [("bridge", 0), ("yard", 0)], "here")
        self.assert_walk(town, "go back\nhere", ("station", 0), [("bridge", 0), ("station", 0)], "here")
        self.assert_walk(town, "go left 1\nhere", ("station", 0), [("bridge", 0), ("baker", 0)], "here")
        self.assert_walk(town, "go left 1\nhere", ("baker", 0), [("bridge", 1), ("yard", 0)], "here")
        self.assert_walk(town, "go left 2\nhere", ("baker", 0), [("bridge", 1), ("station", 0)], "here")
        self.assert_walk(town, "go right 1\nhere", ("baker", 0), [("bridge", 1), ("station", 0)], "here")
        self.assert_walk(town, "go right 2\nhere", ("baker", 0), [("bridge", 1), ("yard", 0)], "here")

    def test_lost_by_the_directions(self):
        self.assert_walk(example_town(), "go on", ("station", 0), [("bridge", 0), ("yard", 0)], "lost")
        self.assert_walk(example_town(), lines("if left", "  here"), ("yard", 0), [("bridge", 2)], "lost")

    def test_lost_as_the_choice_takes_no_end(self):
        town = example_town()
        self.assert_walk(town, "go right 1\nhere", ("station", 0), [("bridge", 0)], "lost")
        self.assert_walk(town, "go left 2\nhere", ("station", 0), [("bridge", 0)], "lost")
        self.assert_walk(town, "go on\nhere", ("baker", 0), [("bridge", 1)], "lost")
        self.assert_walk(town, "go on\ngo on\nhere", ("station", 0), [("bridge", 0), ("yard", 0)], "lost")
        self.assert_walk(town, "go left 3\nhere", ("baker", 0), [("bridge", 1)], "lost")

    def test_round_as_the_walker_acts_round(self):
        self.assert_walk(example_town(), lines("while on", "  if right", "    go on"), ("station", 0), [("bridge", 0)],
                         "round")

    def test_round_as_the_walker_stands_there_again_in_the_same_state(self):
        self.assert_walk(LOOP, "while on\n  go on", ("a", 1), [("a", 0), ("a", 0)], "round")
        self.assert_walk(example_town(), "until left\n  go back\nhere", ("bridge", 2),
                         [("yard", 0), ("bridge", 2), ("yard", 0)], "round")
        self.assert_walk(example_town(), "until sign inn\n  go back", ("baker", 0),
                         [("bridge", 1), ("baker", 0), ("bridge", 1)], "round")

    def test_the_same_stop_in_another_state_is_no_round(self):
        self.assert_walk(LOOP, "go on\ngo on\ngo on\nhere", ("a", 1), [("a", 0)] * 4, "here")
        self.assert_walk(LOOP, lines("again 3", "  go on", "here"), ("a", 1), [("a", 0)] * 4, "here")
        self.assert_walk(LOOP, lines("while on", "  go on", "  go back"), ("a", 0),
                         [("a", 1), ("a", 1), ("a", 0), ("a", 0), ("a", 1)], "round")

    def test_to_and_fro(self):
        self.assert_walk(example_town(), lines("go back", "go back", "go on", "go back", "here"), ("station", 0),
                         [("bridge", 0), ("station", 0), ("bridge", 0), ("yard", 0), ("bridge", 2)], "here")

    def test_conditions_are_asked_where_the_walker_stands(self):
        text = lines("until sign bridge", "  if on", "    go on", "  else", "    go left 1", "go left 1", "here")
        town = town_of([("a", 1, (), ()), ("b", 3, (), ()), *thread("m"), ("c", 2, (), ("bridge",)), ("d", 1, (), ())],
                       "a0-m1 m0-b1 b2-c1 c0-d0")
        self.assert_walk(town, text, ("a", 0), [("m", 1), ("b", 1), ("c", 1), ("d", 0)], "here")

    def test_a_loop_through_several_states(self):
        town = town_of([("a", 4, ((0, 2), (1, 3)), ())], "a0-a1 a2-a3")
        self.assert_walk(town, "while on\n  go on", ("a", 0), [("a", 1), ("a", 2), ("a", 1)], "round")

    def test_twenty_ends(self):
        town = star(20, ((3, 17),))
        self.assert_walk(town, "go left 3\nhere", ("zd", 0), [("mid", 3), ("zg", 0)], "here")
        self.assert_walk(town, "go right 3\nhere", ("zd", 0), [("mid", 3), ("za", 0)], "here")
        self.assert_walk(town, "go right 3\nhere", ("za", 0), [("mid", 0), ("zr", 0)], "here")

    def test_no_stop(self):
        for value in any_values() + [("yard", 1), ("yard", -1), ("yard", False), ("inn", 0), ["yard", 0],
                                     ("yard", 0, 0)]:
            with self.subTest(value=value):
                self.assertIs(value, caught(self, NoStop, walk, example_town(), example_directions(), value).value)


class LedTest(unittest.TestCase):
    def assert_led(self, sketch, town, text, start, goal, how):
        with self.subTest(text=text, start=start, goal=goal):
            directions, found = Directions(text), fit(sketch, town)
            self.assertEqual(how, led(sketch, town, found, directions, start, goal))
            # The mirror image is fitted anew: where there is one fit only it is the same one.
            self.assertEqual(how, led(~sketch, ~town, fit(~sketch, ~town), ~directions, start, goal))

    def test_example(self):
        sketch, town, directions = example_sketch(), example_town(), example_directions()
        found = fit(sketch, town)
        self.assertEqual("comes", led(sketch, town, found, directions, ("station", "s"), "baker"))
        self.assertEqual("wrong", led(sketch, town, found, directions, ("station", "s"), "bridge"))
        self.assertEqual("comes", led(goal="baker", start=("station", "s"), directions=directions, fit=found, town=town,
                                      sketch=sketch))

    def test_here(self):
        for goal, how in (("baker", "wrong"), ("bridge", "comes"), ("station", "wrong")):
            self.assert_led(example_sketch(), example_town(), "here", ("station", "s"), goal, how)
            self.assert_led(example_sketch(), example_town(), "here", ("baker", "p"), goal, how)
        self.assert_led(example_sketch(), example_town(), "here", ("bridge", "b"), "baker", "comes")
        self.assert_led(example_sketch(), example_town(), "go back\ngo left 1\nhere", ("bridge", "a"), "baker", "comes")

    def test_lost(self):
        self.assert_led(example_sketch(), example_town(), "go right 1\nhere", ("station", "s"), "baker", "lost")
        self.assert_led(example_sketch(), example_town(), "go back", ("station", "s"), "baker", "lost")

    def test_leaves_by_an_end_that_leads_off(self):
        self.assert_led(example_sketch(), example_town(), "go on\nhere", ("station", "s"), "baker", "leaves")
        self.assert_led(example_sketch(), example_town(), "go left 1\nhere", ("baker", "p"), "baker", "leaves")

    def test_leaves_by_a_further_end(self):
        town = town_of([("baker", 1, (), ("bread",)), ("bridge", 4, ((0, 3),), ("bridge",)), ("station", 1, (), ())],
                       "bridge0-station0 bridge2-baker0")
        sketch = example_sketch((("shut", "bridge", "b"),))
        self.assert_led(sketch, town, "go left 1\nhere", ("station", "s"), "baker", "leaves")
        self.assert_led(sketch, town, "go left 2\nhere", ("station", "s"), "baker", "comes")
        self.assert_led(sketch, town, "go right 2\nhere", ("baker", "p"), "station", "comes")
        self.assert_led(sketch, town, "go right 1\nhere", ("baker", "p"), "baker", "leaves")

    def test_leaving_ends_the_walk_wherever_the_end_leads(self):
        # The end c leads off, though it leads to the station in this town.
        town = town_of([("baker", 1, (), ("bread",)), ("bridge", 3, ((0, 2),), ("bridge",)), ("station", 2, (), ())],
                       "bridge0-station0 bridge1-baker0 bridge2-station1")
        sketch = example_sketch()
        self.assertEqual(((("bridge", 0), ("station", 1)), "here"), walk(town, Directions("go on\nhere"),
                                                                         ("station", 0)))
        self.assert_led(sketch, town, "go on\nhere", ("station", "s"), "station", "leaves")
        self.assert_led(sketch, town, "go back\ngo left 1\nhere", ("station", "s"), "station", "leaves")

    def test_along_a_way(self):
        town = town_of([("a", 1, (), ()), ("b", 1, (), ()), ("m", 4, ((0, 2),), ()), ("n", 3, ((1, 2),), ("oak",))],
                       "a0-m0 m2-n1 n2-b0 m1-m3")
        sketch = sketch_of([("a", ("p",), (), ()), ("b", ("q",), (), ())], "a.p-b.q")
        for text, start, goal, how in (
            ("go on\ngo on\nhere", ("a", "p"), "b", "comes"),
            ("go on\ngo on\nhere", ("a", "p"), "a", "wrong"),
            ("go on\nhere", ("a", "p"), "b", "wrong"),
            ("here", ("a", "p"), "a", "wrong"),
            ("go on\ngo back\ngo on\nhere", ("a", "p"), "a", "comes"),
            ("go on\ngo on\nhere", ("b", "q"), "a", "comes"),
            ("go back\nhere", ("b", "q"), "b", "comes"),
            ("go left 1\ngo right 1\nhere", ("a", "p"), "b", "leaves"),
            ("go right 1\nhere", ("a", "p"), "b", "leaves"),
            ("go left 2\nhere", ("a", "p"), "b", "lost"),
            ("go on\ngo right 1\nhere", ("a", "p"), "b", "leaves"),
            ("go on\ngo left 1\nhere", ("a", "p"), "b", "lost"),
            ("go on\ngo on\ngo on\nhere", ("a", "p"), "b", "lost"),
            ("go on\ngo on\ngo back\nhere", ("a", "p"), "b", "wrong"),
            ("until sign oak\n  go on\nhere", ("a", "p"), "b", "wrong"),
            ("while on\n  go on\nhere", ("a", "p"), "b", "comes"),
            ("while on\n  go back\nhere", ("a", "p"), "a", "comes"),
            ("until sign elm\n  go back\nhere", ("a", "p"), "a", "round"),
            ("while on\n  go on\n  go back\n  if sign oak\n    go on\n  go back", ("b", "q"), "b", "round"),
        ):
            self.assert_led(sketch, town, text, start, goal, how)

    def test_round(self):
        sketch, town = example_sketch(), example_town()
        self.assert_led(sketch, town, "while on\n  if right\n    go on", ("station", "s"), "baker", "round")
        self.assert_led(sketch, town, "until sign inn\n  go back", ("station", "s"), "baker", "round")
        loop = sketch_of([("a", ("p", "q"), (("p", "q"),), ())], "a.p-a.q", [("shut", "a", "p"), ("shut", "a", "q")])
        self.assert_led(loop, LOOP, "while on\n  go on", ("a", "p"), "a", "round")
        self.assert_led(loop, LOOP, "again 3\n  go on\nhere", ("a", "q"), "a", "comes")

    def test_each_fit_leads_by_its_own_ends(self):
        town = town_of([("a", 1, (), ()), ("b", 2, (), ()), ("c", 1, (), ())], "a0-b0 b1-c0")
        sketch = sketch_of([("b", ("p", "q"), (), ()), ("c", ("r",), (), ())], "b.q-c.r")
        self.assert_led(sketch, town, "go back\nhere", ("b", "q"), "b", "comes")
        loop = sketch_of([("a", ("p", "q"), (), ())], "a.p-a.q")
        both = town_of([("a", 3, (), ())], "a0-a1")
        for rounds in ((0, 1), (1, 0)):
            found = ((rounds,), ((),))
            how = led(loop, both, found, Directions("go left 1\nhere"), ("a", "p"), "a")
            self.assertEqual("leaves" if rounds == (0, 1) else "comes", how)
            how = led(loop, both, found, Directions("go left 1\nhere"), ("a", "q"), "a")
            self.assertEqual("comes" if rounds == (0, 1) else "leaves", how)

    def test_more_facts_change_no_walk(self):
        town, directions = example_town(), example_directions()
        for facts in ((), FACTS, example_sketch().tellable()):
            sketch = example_sketch(facts)
            self.assertEqual("comes", led(sketch, town, fit(sketch, town), directions, ("station", "s"), "baker"))


class BadLedTest(unittest.TestCase):
    def led(self, fitted, start, goal):
        return led(example_sketch(), example_town(), fitted, example_directions(), start, goal)

    def assert_bad(self, error, value, *arguments):
        with self.subTest(error=error, value=value):
            self.assertIs(value, caught(self, error, self.led, *arguments).value)

    def test_any_values(self):
        good = fit(example_sketch(), example_town())
        for value in any_values():
            self.assert_bad(BadFit, value, value, ("station", "s"), "baker")
            self.assert_bad(BadStart, value, good, value, "baker")
            self.assert_bad(BadGoal, value, good, ("station", "s"), value)

    def test_fits(self):
        rounds, ways = fit(example_sketch(), example_town())
        for value in (None, (rounds, ()), ((), ways), (((0,), (1, 2, 0), (0,)), ways), [rounds, ways],
                      (((False,), (0, 1, 2), (0,)), ways)):
            self.assert_bad(BadFit, value, value, ("station", "s"), "baker")
        sketch, town = example_sketch(), star(3)
        self.assertIsNone(caught(self, BadFit, led, sketch, town, None, example_directions(), ("station", "s"),
                                 "baker").value)

    def test_starts(self):
        good = fit(example_sketch(), example_town())
        # End c leads off: it is an end of no told street.
        for value in (("bridge", "c"), ("bridge", "d"), ("station", 0), ("station", "p"), ("yard", "s"),
                      ["station", "s"],
                      ("station", "s", 0), "station", ("station",), (("station", "s"),), 0):
            self.assert_bad(BadStart, value, good, value, "baker")

    def test_goals(self):
        good = fit(example_sketch(), example_town())
        for value in ("yard", "inn", "", "Baker", ("baker",), ["baker"], 0, None, ("baker", "p"), ("along", 0)):
            self.assert_bad(BadGoal, value, good, ("station", "s"), value)

    def test_order(self):
        good = fit(example_sketch(), example_town())
        self.assert_bad(BadFit, 1, 1, 2, 3)
        self.assert_bad(BadStart, 2, good, 2, 3)
        self.assert_bad(BadGoal, 3, good, ("bridge", "b"), 3)

    def test_nothing_is_changed(self):
        sketch, town, directions = example_sketch(FACTS), example_town(), example_directions()
        found = fit(sketch, town)
        led(sketch, town, found, directions, ("station", "s"), "baker")
        walk(town, directions, ("station", 0))
        self.assertTrue(sketch == example_sketch(FACTS) and town == example_town())
        self.assertTrue(directions == example_directions())


if __name__ == "__main__":
    unittest.main()
