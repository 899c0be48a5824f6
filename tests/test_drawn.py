"""Promise 6: the sketch of what lies between some crossings of a town."""

import unittest

from samples import any_values, caught, example_town, star, town_of
from sketchways.errors import BadNames, Undrawn
from sketchways.fits import drawn, fit, shows_fit
from sketchways.sketches import Sketch
from sketchways.towns import Town


def thread(*names):
    """Crossings with two ends that go straight on to one another."""
    return [(name, 2, ((0, 1),), ()) for name in names]


def hub(ends, straight=(), signs=()):
    """A town in which each end of the crossing a is joined to the blind end b, c, d .. of its number."""
    rows = [("a", ends, straight, signs)] + [("bcdefghijklmnopqrstu"[k], 1, (), ()) for k in range(ends)]
    return town_of(rows, " ".join(f"a{k}-{'bcdefghijklmnopqrstu'[k]}0" for k in range(ends)))


class DrawnCase(unittest.TestCase):
    def assert_drawn(self, town, names, crossings, streets, facts):
        found = drawn(town, names)
        self.assertIsInstance(found, Sketch)
        self.assertEqual(crossings, found.crossings)
        self.assertEqual(streets, found.streets)
        self.assertEqual(tuple(sorted(facts)), found.facts)
        self.assertIsNotNone(fit(found, town))
        numbers = {"e" + letter: number for number, letter in enumerate("abcdefghijklmnopqrst")}
        rounds = tuple(tuple(numbers[end] for end in row[1]) for row in found.crossings)
        ways = tuple(self.way(town, (stop[0], numbers[stop[1]]), names) for stop, other in found.streets)
        self.assertIs(True, shows_fit(found, town, (rounds, ways)))

    def way(self, town, stop, names):
        """The further crossings behind this stop, straight on to one of these names."""
        at = town[stop]
        passed = []
        while at[0] not in names:
            on = town.taken(at, ("on",))
            passed.append((at[0], at[1], on))
            at = town[(at[0], on)]
        return tuple(passed)

    def assert_undrawn(self, town, names):
        with self.subTest(names=names):
            self.assertIs(names, caught(self, Undrawn, drawn, town, names).value)
            self.assertIs(names, caught(self, Undrawn, drawn, names=names, town=town).value)


class DrawnTest(DrawnCase):
    def test_example(self):
        found = drawn(example_town(), ("baker", "bridge"))
        self.assertEqual((("baker", ("ea",), (), ("bread",)), ("bridge", ("eb",), (), ("bridge",))), found.crossings)
        self.assert_drawn(example_town(), ("baker", "bridge"), found.crossings, ((("baker", "ea"), ("bridge", "eb")),),
                          [("clear", "baker", "ea"), ("full", "baker"), ("full", "bridge"), ("only", "bread"),
                           ("only", "bridge"), ("shut", "baker", "ea")])

    def test_whole_towns(self):
        self.assert_drawn(
            example_town(), ("baker", "bridge", "station", "yard"),
            (("baker", ("ea",), (), ("bread",)), ("bridge", ("ea", "eb", "ec"), (("ea", "ec"),), ("bridge",)),
             ("station", ("ea",), (), ()), ("yard", ("ea",), (), ())),
            ((("baker", "ea"), ("bridge", "eb")), (("bridge", "ea"), ("station", "ea")),
             (("bridge", "ec"), ("yard", "ea"))),
            [("clear", "baker", "ea"), ("clear", "bridge", "ea"), ("clear", "bridge", "ec"), ("full", "baker"),
             ("full", "bridge"), ("full", "station"), ("full", "yard"), ("only", "bread"), ("only", "bridge"),
             ("shut", "baker", "ea"), ("shut", "bridge", "ea"), ("shut", "bridge", "eb"), ("shut", "bridge", "ec"),
             ("shut", "station", "ea"), ("shut", "yard", "ea")])

    def test_lines_through_other_crossings(self):
        self.assert_drawn(
            example_town(), ("station", "yard"), (("station", ("ea",), (), ()), ("yard", ("ea",), (), ())),
            ((("station", "ea"), ("yard", "ea")),),
            [("full", "station"), ("full", "yard"), ("shut", "station", "ea"), ("shut", "yard", "ea")])
        town = town_of([("a", 1, (), ()), ("b", 1, (), ()), *thread("m", "n")], "a0-n1 n0-m0 m1-b0")
        self.assert_drawn(town, ("a", "b"), (("a", ("ea",), (), ()), ("b", ("ea",), (), ())),
                          ((("a", "ea"), ("b", "ea")),),
                          [("full", "a"), ("full", "b"), ("shut", "a", "ea"), ("shut", "b", "ea")])

    def test_ends_that_go_straight_on_to_lines_are_told(self):
        town = hub(4, ((0, 2), (1, 3)))
        self.assert_drawn(town, ("a", "b"), (("a", ("ea", "ec"), (("ea", "ec"),), ()), ("b", ("ea",), (), ())),
                          ((("a", "ea"), ("b", "ea")),),
                          [("clear", "a", "ea"), ("full", "a"), ("full", "b"), ("shut", "b", "ea")])
        self.assert_drawn(town, ("a", "e"), (("a", ("eb", "ed"), (("eb", "ed"),), ()), ("e", ("ea",), (), ())),
                          ((("a", "ed"), ("e", "ea")),),
                          [("clear", "a", "ed"), ("full", "a"), ("full", "e"), ("shut", "e", "ea")])
        self.assert_drawn(town, ("a", "b", "c"),
                          (("a", ("ea", "eb", "ec", "ed"), (("ea", "ec"), ("eb", "ed")), ()), ("b", ("ea",), (), ()),
                           ("c", ("ea",), (), ())),
                          ((("a", "ea"), ("b", "ea")), (("a", "eb"), ("c", "ea"))),
                          [("clear", "a", "ea"), ("clear", "a", "eb"), ("full", "a"), ("full", "b"), ("full", "c"),
                           ("shut", "a", "ea"), ("shut", "a", "eb"), ("shut", "a", "ec"), ("shut", "a", "ed"),
                           ("shut", "b", "ea"), ("shut", "c", "ea")])

    def test_ends_without_lines_are_not_told(self):
        self.assert_drawn(hub(5, ((2, 4),)), ("a", "b", "c"),
                          (("a", ("ea", "eb"), (), ()), ("b", ("ea",), (), ()), ("c", ("ea",), (), ())),
                          ((("a", "ea"), ("b", "ea")), (("a", "eb"), ("c", "ea"))),
                          [("clear", "a", "ea"), ("clear", "a", "eb"), ("full", "a"), ("full", "b"), ("full", "c"),
                           ("shut", "a", "ea"), ("shut", "b", "ea"), ("shut", "c", "ea")])

    def test_an_end_from_which_nothing_goes_straight_on(self):
        # The streets from a to m and from m to b meet where nothing goes straight on: no line.
        town = town_of([("a", 2, (), ()), ("b", 2, (), ()), ("m", 2, (), ())], "a0-m0 m1-b0 a1-b1")
        self.assert_drawn(town, ("a", "b"), (("a", ("eb",), (), ()), ("b", ("eb",), (), ())),
                          ((("a", "eb"), ("b", "eb")),), [("clear", "a", "eb"), ("full", "a"), ("full", "b")])
        self.assert_drawn(town, ("a", "b", "m"),
                          (("a", ("ea", "eb"), (), ()), ("b", ("ea", "eb"), (), ()), ("m", ("ea", "eb"), (), ())),
                          ((("a", "ea"), ("m", "ea")), (("a", "eb"), ("b", "eb")), (("b", "ea"), ("m", "eb"))),
                          [("clear", "a", "ea"), ("clear", "a", "eb"), ("clear", "b", "ea"), ("full", "a"),
                           ("full", "b"), ("full", "m")] +
                          [("shut", name, end) for name in "abm" for end in ("ea", "eb")])

    def test_a_line_between_ends_of_one_crossing(self):
        town = town_of([("a", 3, (), ("inn",)), *thread("m")], "a2-m0 m1-a0")
        self.assert_drawn(town, ("a",), (("a", ("ea", "ec"), (), ("inn",)),), ((("a", "ea"), ("a", "ec")),),
                          [("full", "a"), ("only", "inn"), ("shut", "a", "ec")])
        town = Town((("a", 2, ((0, 1),), ()),), ((("a", 0), ("a", 1)),))
        self.assert_drawn(town, ("a",), (("a", ("ea", "eb"), (("ea", "eb"),), ()),), ((("a", "ea"), ("a", "eb")),),
                          [("clear", "a", "ea"), ("full", "a"), ("shut", "a", "ea"), ("shut", "a", "eb")])

    def test_a_line_ends_at_the_first_of_these_crossings(self):
        town = town_of([("a", 1, (), ()), ("b", 1, (), ()), *thread("m")], "a0-m0 m1-b0")
        self.assert_drawn(town, ("a", "b", "m"),
                          (("a", ("ea",), (), ()), ("b", ("ea",), (), ()), ("m", ("ea", "eb"), (("ea", "eb"),), ())),
                          ((("a", "ea"), ("m", "ea")), (("b", "ea"), ("m", "eb"))),
                          [("clear", "a", "ea"), ("clear", "b", "ea"), ("full", "a"), ("full", "b"), ("full", "m"),
                           ("shut", "a", "ea"), ("shut", "b", "ea"), ("shut", "m", "ea"), ("shut", "m", "eb")])

    def test_only_signs_that_stand_nowhere_else(self):
        town = town_of([("a", 1, (), ("elm", "inn", "oak")), ("b", 1, (), ("inn",)), ("m", 2, ((0, 1),), ("oak",)),
                        ("n", 2, (), ("elm", "yew"))], "a0-m0 m1-b0")
        self.assert_drawn(town, ("a", "b"), (("a", ("ea",), (), ("elm", "inn", "oak")), ("b", ("ea",), (), ("inn",))),
                          ((("a", "ea"), ("b", "ea")),),
                          [("full", "a"), ("full", "b"), ("only", "inn"), ("shut", "a", "ea"), ("shut", "b", "ea")])

    def test_twenty_ends(self):
        found = drawn(hub(20, ((4, 19),)), ("a", "u"))
        self.assertEqual(("a", ("ee", "et"), (("ee", "et"),), ()), found.crossings[0])
        self.assertEqual(((("a", "et"), ("u", "ea")),), found.streets)
        self.assertEqual((("clear", "a", "et"), ("full", "a"), ("full", "u"), ("shut", "u", "ea")), found.facts)
        found = drawn(hub(20), ("a", "b", "t", "u"))
        self.assertEqual(("a", ("ea", "es", "et"), (), ()), found.crossings[0])
        self.assertIn(("shut", "a", "et"), found.facts)
        self.assertNotIn(("shut", "a", "ea"), found.facts)

    def test_nothing_is_changed(self):
        town = example_town()
        self.assertTrue(drawn(town, ("baker", "bridge")) == drawn(town, names=("baker", "bridge")))
        self.assertTrue(town == example_town())


class BadNamesTest(DrawnCase):
    def assert_bad(self, names, town=None):
        with self.subTest(names=names):
            self.assertIs(names, caught(self, BadNames, drawn, town or example_town(), names).value)

    def test_any_values(self):
        for value in any_values():
            if value != ("bridge",):
                self.assert_bad(value)
            self.assert_bad((value,))
            self.assert_bad(("baker", value))

    def test_other_names(self):
        for names in ((), ("inn",), ("baker", "inn"), ("bridge", "baker"), ("baker", "baker"), ["baker", "bridge"],
                      "baker", ("baker", "bridge", "baker"), ("Baker",), ("baker", 0), (("baker", 0),), {"baker": 0}):
            self.assert_bad(names)

    def test_at_most_five(self):
        town = hub(5)
        self.assert_bad(("a", "b", "c", "d", "e", "f"), town)
        self.assertEqual(5, len(drawn(hub(4), ("a", "b", "c", "d", "e")).crossings))


class UndrawnTest(DrawnCase):
    def test_a_crossing_that_two_lines_pass(self):
        rows = [(name, 1, (), ()) for name in "abcd"] + [("m", 4, ((0, 2), (1, 3)), ())]
        town = town_of(rows, "a0-m0 m2-b0 c0-m1 m3-d0")
        self.assert_undrawn(town, ("a", "b", "c", "d"))
        self.assertEqual(1, len(drawn(town, ("a", "b")).streets))
        self.assertEqual(4, len(drawn(town, ("a", "b", "c", "d", "m")).streets))

    def test_a_crossing_that_one_line_passes_twice(self):
        town = town_of([("a", 1, (), ()), ("b", 1, (), ()), ("m", 4, ((0, 2), (1, 3)), ())], "a0-m0 m2-m1 m3-b0")
        self.assert_undrawn(town, ("a", "b"))

    def test_a_crossing_that_is_passed_without_a_line(self):
        # From c the walker passes m, too, but comes to an end where nothing goes straight on.
        town = town_of([(name, 1, (), ()) for name in "ab"] + [("c", 2, (), ()), ("m", 4, ((0, 2), (1, 3)), ())],
                       "a0-m0 m2-b0 c0-m1")
        self.assertEqual(1, len(drawn(town, ("a", "b")).streets))
        self.assert_undrawn(town, ("a", "b", "c"))
        town = town_of([(name, 2, (), ()) for name in "ab"] + [("m", 4, ((0, 2), (1, 3)), ())], "a0-m0 m2-b0 a1-m1")
        self.assertEqual(((("a", "ea"), ("b", "ea")),), drawn(town, ("a", "b")).streets)

    def test_a_crossing_without_a_told_end(self):
        self.assert_undrawn(example_town(), ("baker",))
        self.assert_undrawn(example_town(), ("baker", "station"))
        self.assert_undrawn(example_town(), ("baker", "station", "yard"))
        self.assert_undrawn(example_town(), ("bridge",))
        self.assert_undrawn(hub(3), ("a",))

    def test_five_told_ends(self):
        ring = town_of([("a", 5, (), ()), ("b", 5, (), ())], "a0-b4 a1-b3 a2-b2 a3-b1 a4-b0")
        self.assert_undrawn(ring, ("a", "b"))
        self.assert_undrawn(hub(5, ((0, 2), (1, 3))), ("a", "b", "c", "f"))
        self.assertEqual(4, len(drawn(hub(5, ((0, 2), (1, 3))), ("a", "b", "c")).crossings[0][1]))
        ring = town_of([("a", 4, (), ()), ("b", 4, (), ())], "a0-b3 a1-b2 a2-b1 a3-b0")
        self.assertEqual(4, len(drawn(ring, ("a", "b")).streets))

    def test_five_signs(self):
        for signs, good in ((("a", "b", "c", "d"), True), (("a", "b", "c", "d", "e"), False)):
            town = town_of([("a", 1, (), ()), ("b", 1, (), signs)], "a0-b0")
            if good:
                self.assertEqual(signs, drawn(town, ("a", "b")).crossings[1][3])
            else:
                self.assert_undrawn(town, ("a", "b"))

    def test_four_open_gaps(self):
        self.assert_undrawn(hub(8), ("a", "b", "d", "f", "h"))
        self.assertEqual(4, len(drawn(hub(8), ("a", "b", "d", "f", "g")).crossings[0][1]))
        self.assertEqual(3, len(drawn(hub(8), ("a", "b", "d", "f")).crossings[0][1]))

    def test_eight_streets(self):
        rows = [(name, 4, (), ()) for name in "abcd"]
        self.assert_undrawn(town_of(rows, "a0-b0 a1-b1 a2-c0 a3-d0 b2-c1 b3-d1 c2-d2 c3-d3"), ("a", "b", "c", "d"))
        town = town_of(rows, "a0-b0 a1-b1 a2-c0 a3-d0 b2-c1 b3-d1 c2-d2")
        self.assertEqual(7, len(drawn(town, ("a", "b", "c", "d")).streets))

    def test_stars(self):
        self.assert_undrawn(star(3), ("mid",))
        self.assertEqual(1, len(drawn(star(3), ("mid", "zc")).streets))


if __name__ == "__main__":
    unittest.main()
