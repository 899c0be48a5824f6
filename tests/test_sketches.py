"""Promise 5: the class Sketch and its properties."""

import unittest

from samples import FACTS, TOLD, WAYS, any_values, caught, example_sketch, example_town
from sketchways.errors import BadCrossings, BadFacts, BadStreets
from sketchways.sketches import Sketch

ONE = (("a", ("p",), (), ()),)
FOUR = ("p", "q", "r", "s")
# Three crossings of four ends, each with a gap that is shut.
WIDE = tuple((name, FOUR, (), ()) for name in "abc")
WIDE_FACTS = tuple(("shut", name, "p") for name in "abc")


def ways(many):
    """So many streets between ends of WIDE and two more crossings of four ends."""
    stops = [(name, end) for name in "abcde" for end in FOUR]
    return tuple((stops[2 * k], stops[2 * k + 1]) for k in range(many))


class TakenTest(unittest.TestCase):
    def assert_taken(self, crossings, streets=(), facts=()):
        sketch = Sketch(crossings, streets, facts)
        self.assertIs(crossings, sketch.crossings)
        self.assertIs(streets, sketch.streets)
        self.assertIs(facts, sketch.facts)
        self.assertEqual((crossings, streets), sketch.net)
        self.assertEqual(len(facts), len(sketch))

    def test_example(self):
        self.assert_taken(TOLD, WAYS)
        self.assert_taken(TOLD, WAYS, FACTS)

    def test_arguments_by_name(self):
        sketch = Sketch(facts=FACTS, streets=WAYS, crossings=TOLD)
        self.assertEqual(((TOLD, WAYS), FACTS), (sketch.net, sketch.facts))
        self.assertEqual((), Sketch(streets=WAYS, crossings=TOLD).facts)

    def test_one_to_five_crossings(self):
        for many in (1, 2, 3, 4, 5):
            self.assert_taken(tuple((name, ("p",), (), ()) for name in "abcde"[:many]))

    def test_one_to_four_ends(self):
        for many in (1, 2, 3):
            self.assert_taken((("a", FOUR[:many], (), ()),))
        self.assert_taken((("a", FOUR, (), ()),), (), (("shut", "a", "q"),))

    def test_ends_in_any_sequence(self):
        self.assert_taken((("a", ("s", "abcdefgh", "q"), (("abcdefgh", "s"),), ()),))

    def test_signs(self):
        self.assert_taken((("a", ("p",), (), ("a", "ab", "b", "zzzzzzzz")),))

    def test_straight_pairs(self):
        self.assert_taken((("a", FOUR, (("p", "r"), ("q", "s")), ()),), (), (("shut", "a", "q"),))
        self.assert_taken((("a", ("r", "q", "p"), (("p", "r"),), ()),))

    def test_streets(self):
        crossings = tuple((name, FOUR, (), ()) for name in "abcde")
        facts = tuple(("shut", name, "p") for name in "abcde")
        for many in range(8):
            self.assert_taken(crossings, ways(many), facts)
        self.assert_taken(WIDE, ((("a", "q"), ("a", "s")), (("b", "q"), ("c", "p"))), WIDE_FACTS)


class BadCrossingsTest(unittest.TestCase):
    def assert_bad(self, crossings):
        with self.subTest(crossings=crossings):
            self.assertIs(crossings, caught(self, BadCrossings, Sketch, crossings, ()).value)
            self.assertIs(crossings, caught(self, BadCrossings, Sketch, crossings, None, None).value)
            self.assertIs(crossings, caught(self, BadCrossings, Sketch, facts=0, streets=0, crossings=crossings).value)

    def test_any_values(self):
        for value in any_values():
            self.assert_bad(value)
            self.assert_bad((value,))
            self.assert_bad(ONE + (value,))
            self.assert_bad(((value, ("p",), (), ()),))
            self.assert_bad((("a", (value,), (), ()),))
            self.assert_bad((("a", ("p", "q"), (value,), ()),))
            self.assert_bad((("a", ("p",), (), (value,)),))
            if value != ("bridge",):
                self.assert_bad((("a", value, (), ()),))
            if value != ():
                self.assert_bad((("a", ("p", "q"), value, ()),))
            if value not in ((), ("bridge",)):
                self.assert_bad((("a", ("p", "q"), (), value),))

    def test_how_many_crossings(self):
        self.assert_bad(())
        self.assert_bad(tuple((name, ("p",), (), ()) for name in "abcdef"))

    def test_lists_in_the_place_of_tuples(self):
        self.assert_bad([("a", ("p",), (), ())])
        self.assert_bad((["a", ("p",), (), ()],))
        self.assert_bad((("a", ["p"], (), ()),))
        self.assert_bad((("a", ("p",), [], ()),))
        self.assert_bad((("a", ("p", "q"), [("p", "q")], ()),))
        self.assert_bad((("a", ("p", "q"), (["p", "q"],), ()),))
        self.assert_bad((("a", ("p",), (), []),))

    def test_the_length_of_a_crossing(self):
        self.assert_bad((("a", ("p",), ()),))
        self.assert_bad((("a", ("p",), (), (), ()),))

    def test_names_of_crossings(self):
        for name in ("", "abcdefghi", "A", "a1", "a b", "a\n"):
            self.assert_bad(((name, ("p",), (), ()),))

    def test_names_that_stand_twice_or_do_not_ascend(self):
        self.assert_bad((("a", ("p",), (), ()), ("a", ("q",), (), ())))
        self.assert_bad((("a", ("p",), (), ()), ("a", ("p",), (), ())))
        self.assert_bad((("b", ("p",), (), ()), ("a", ("q",), (), ())))

    def test_ends(self):
        for ends in ((), ("p", "q", "r", "s", "t"), ("p", "p"), ("p", "q", "p"), ("",), ("abcdefghi",), ("P",), ("p1",),
                     (1,), (True,), (None,), 1, "p", "pq", None, (("p",),), ("p", ["q"]), {"p": "q"}):
            self.assert_bad((("a", ends, (), ()),))

    def test_straight_pairs(self):
        for straight in ((("q", "p"),), (("p", "p"),), (("p", "q"), ("q", "r")), (("p", "q"), ("p", "r")),
                         (("p", "r"), ("q", "r")), (("p", "q"), ("p", "q")), (("p", "x"),), (("a", "p"),), (("p",),),
                         (("p", "q", "r"),), ("p", "q"), "pq", ((0, 1),), ((0, 2),), (("p", 1),), (("p", True),),
                         (("p", None),), (("p", ["q"]),), ((("a", "p"), ("a", "q")),), ("pq",)):
            self.assert_bad((("a", ("p", "q", "r"), straight, ()),))

    def test_straight_pairs_that_do_not_ascend(self):
        self.assert_bad((("a", FOUR, (("r", "s"), ("p", "q")), ()),))
        self.assert_bad((("a", FOUR, (("q", "r"), ("p", "s")), ()),))

    def test_signs(self):
        for signs in (("a", "b", "c", "d", "e"), ("b", "a"), ("a", "a"), ("",), ("abcdefghi",), ("A",), (1,), "a", None,
                      ("a", ("b",)), ("a", ["b"])):
            self.assert_bad((("a", ("p",), (), signs),))


class BadStreetsTest(unittest.TestCase):
    def assert_bad(self, streets, crossings=TOLD):
        with self.subTest(streets=streets):
            self.assertIs(streets, caught(self, BadStreets, Sketch, crossings, streets).value)
            self.assertIs(streets, caught(self, BadStreets, Sketch, crossings, streets, None).value)
            self.assertIs(streets, caught(self, BadStreets, Sketch, facts=(0,), streets=streets,
                                          crossings=crossings).value)

    def test_any_values(self):
        for value in any_values():
            if value != ():
                self.assert_bad(value)
            self.assert_bad((value,))
            self.assert_bad(WAYS[:1] + (value,))
            self.assert_bad(((value, ("bridge", "b")),))
            self.assert_bad(((("baker", "p"), value),))
            self.assert_bad(((("baker", value), ("bridge", "b")),))
            self.assert_bad((((value, "p"), ("bridge", "b")),))

    def test_how_many_streets(self):
        crossings = tuple((name, FOUR, (), ()) for name in "abcde")
        self.assert_bad(ways(8), crossings)
        self.assert_bad(ways(10), crossings)

    def test_a_stop_in_two_streets(self):
        self.assert_bad(((("baker", "p"), ("bridge", "b")), (("baker", "p"), ("station", "s"))))
        self.assert_bad(((("baker", "p"), ("bridge", "b")), (("bridge", "b"), ("station", "s"))))
        self.assert_bad(((("baker", "p"), ("station", "s")), (("bridge", "a"), ("station", "s"))))
        self.assert_bad(WAYS[:1] + WAYS[:1])

    def test_a_stop_joined_with_itself(self):
        self.assert_bad(((("baker", "p"), ("baker", "p")),))

    def test_streets_turned_about_or_not_ascending(self):
        self.assert_bad(((("bridge", "b"), ("baker", "p")),))
        self.assert_bad(((("bridge", "b"), ("bridge", "a")),))
        self.assert_bad(WAYS[::-1])

    def test_stops_that_are_not_told(self):
        self.assert_bad(((("baker", "p"), ("bridge", "d")),))
        self.assert_bad(((("baker", "p"), ("yard", "e")),))
        self.assert_bad(((("baker", "a"), ("bridge", "b")),))
        self.assert_bad(((("baker", 0), ("bridge", 1)),))

    def test_lists_and_lengths(self):
        self.assert_bad(list(WAYS))
        self.assert_bad((list(WAYS[0]),))
        self.assert_bad(((["baker", "p"], ("bridge", "b")),))
        self.assert_bad(((("baker", "p"), ["bridge", "b"]),))
        self.assert_bad(((("baker", "p"),),))
        self.assert_bad(((("baker", "p"), ("bridge", "b"), ("station", "s")),))
        self.assert_bad(((("baker", "p"), ("bridge", "b", "b")),))


class BadFactsTest(unittest.TestCase):
    def assert_bad(self, facts, crossings=TOLD, streets=WAYS):
        with self.subTest(facts=facts):
            self.assertIs(facts, caught(self, BadFacts, Sketch, crossings, streets, facts).value)
            self.assertIs(facts, caught(self, BadFacts, Sketch, facts=facts, streets=streets,
                                        crossings=crossings).value)

    def test_any_values(self):
        for value in any_values():
            if value != ():
                self.assert_bad(value)
            self.assert_bad((value,))
            self.assert_bad(FACTS[:1] + (value,))
            self.assert_bad((("clear", "baker", value),))
            self.assert_bad((("clear", value, "p"),))
            self.assert_bad(((value, "baker", "p"),))
            self.assert_bad(((value, "baker"),))
            self.assert_bad((("full", value),))
            self.assert_bad((("only", value),))
            self.assert_bad((("shut", "bridge", value),))

    def test_each_form(self):
        for fact in (("clear", "baker", "p"), ("clear", "bridge", "a"), ("full", "baker"), ("full", "bridge"),
                     ("full", "station"), ("only", "bread"), ("only", "a"), ("only", "zzzzzzzz"), ("only", "baker"),
                     ("shut", "baker", "p"), ("shut", "bridge", "a"), ("shut", "bridge", "b"), ("shut", "bridge", "c"),
                     ("shut", "station", "s")):
            with self.subTest(fact=fact):
                self.assertEqual((fact,), example_sketch((fact,)).facts)

    def test_clear(self):
        # On side 1, on side 1, an end that leads off, no end, no crossing.
        for stop in (("bridge", "b"), ("station", "s"), ("bridge", "c"), ("bridge", "d"), ("yard", "p"), ("baker", "a")):
            self.assert_bad((("clear",) + stop,))
        self.assert_bad((("clear", "baker"),))
        self.assert_bad((("clear", ("baker", "p")),))
        self.assert_bad((("clear", "baker", "p", "p"),))
        self.assert_bad((("clear", 0),))

    def test_full_and_shut(self):
        for fact in (("full", "yard"), ("full", "p"), ("full", "bread"), ("full", "baker", "p"), ("full",),
                     ("shut", "baker"), ("shut", "baker", "a"), ("shut", "bridge", "d"), ("shut", "yard", "e"),
                     ("shut", "bridge", "a", "b"), ("shut", "bridge", 0)):
            self.assert_bad((fact,))

    def test_only(self):
        for sign in ("", "abcdefghi", "Bread", "two words", "a1", 1, True, None, ("bread",), ["bread"]):
            self.assert_bad((("only", sign),))
        self.assert_bad((("only", "bread", "bread"),))
        self.assert_bad((("only",),))

    def test_other_words(self):
        for fact in (("open", "baker"), ("Full", "baker"), ("full baker",), "full baker", ("", "baker"), ()):
            self.assert_bad((fact,))

    def test_lists(self):
        self.assert_bad(list(FACTS))
        self.assert_bad([])
        self.assert_bad((["full", "baker"],))
        self.assert_bad((["only", "bread"],))

    def test_facts_that_do_not_ascend(self):
        self.assert_bad(FACTS[::-1])
        self.assert_bad((("full", "baker"), ("clear", "baker", "p")))
        self.assert_bad((("only", "b"), ("only", "a")))
        self.assert_bad((("only", "ab"), ("only", "a")))
        self.assert_bad((("shut", "bridge", "c"), ("shut", "bridge", "b")))

    def test_a_fact_twice(self):
        self.assert_bad((("full", "baker"), ("full", "baker")))
        self.assert_bad((("only", "a"), ("only", "a")))

    def test_an_end_on_side_0_of_no_street(self):
        self.assert_bad((("clear", "baker", "p"),), TOLD, ())
        self.assert_bad((("clear", "baker", "p"),), TOLD, WAYS[1:])


class OpenGapsTest(unittest.TestCase):
    def test_four_open_gaps(self):
        crossings = (("a", FOUR, (), ()),)
        self.assertEqual((), caught(self, BadFacts, Sketch, crossings, ()).value)
        for facts in ((), (("full", "a"),), (("full", "a"), ("only", "a"))):
            self.assertIs(facts, caught(self, BadFacts, Sketch, crossings, (), facts).value)
            self.assertIs(facts, caught(self, BadFacts, Sketch, facts=facts, crossings=crossings, streets=()).value)

    def test_three_open_gaps(self):
        crossings = (("a", FOUR, (), ()),)
        for end in FOUR:
            self.assertEqual(1, len(Sketch(crossings, (), (("shut", "a", end),))))
        self.assertEqual(4, len(Sketch(crossings, (), tuple(("shut", "a", end) for end in FOUR))))

    def test_each_crossing_is_counted_by_itself(self):
        self.assertEqual(3, len(Sketch(WIDE, (), WIDE_FACTS)))
        for k in range(3):
            facts = WIDE_FACTS[:k] + WIDE_FACTS[k + 1:]
            self.assertIs(facts, caught(self, BadFacts, Sketch, WIDE, (), facts).value)
        facts = tuple(("shut", "a", end) for end in FOUR) + WIDE_FACTS[1:2]
        self.assertIs(facts, caught(self, BadFacts, Sketch, WIDE, (), facts).value)

    def test_wrong_facts_of_a_crossing_with_four_ends(self):
        crossings = (("a", FOUR, (), ()),)
        for facts in (None, [("shut", "a", "p")], (("shut", "a", "t"),), (("shut", "a", "p"), ("shut", "a", "p"))):
            self.assertIs(facts, caught(self, BadFacts, Sketch, crossings, (), facts).value)


class OrderOfErrorsTest(unittest.TestCase):
    def test_the_first_that_applies(self):
        four = (("a", FOUR, (), ()),)
        self.assertEqual(1, caught(self, BadCrossings, Sketch, 1, 2, 3).value)
        self.assertEqual(2, caught(self, BadStreets, Sketch, four, 2, 3).value)
        self.assertEqual(2, caught(self, BadStreets, Sketch, four, 2).value)
        self.assertEqual(3, caught(self, BadFacts, Sketch, four, (), 3).value)


class EqualTest(unittest.TestCase):
    def test_equal_sketches(self):
        self.assertIs(True, example_sketch() == example_sketch())
        self.assertIs(True, example_sketch(FACTS) == example_sketch(FACTS))
        self.assertIs(False, example_sketch(FACTS) != example_sketch(FACTS))

    def test_other_facts(self):
        self.assertIs(False, example_sketch(FACTS) == example_sketch(FACTS[:2]))
        self.assertIs(True, example_sketch(FACTS) != example_sketch())

    def test_another_net(self):
        for other in (Sketch(TOLD, WAYS[:1]), Sketch(TOLD, ()), Sketch(TOLD[:2], WAYS[:1])):
            self.assertIs(False, example_sketch() == other)
            self.assertIs(True, example_sketch() != other)
        self.assertIs(False, Sketch(ONE, ()) == Sketch((("a", ("q",), (), ()),), ()))

    def test_no_sketch(self):
        for value in any_values() + [example_town(), (TOLD, WAYS), (TOLD, WAYS, ()), FACTS]:
            if not isinstance(value, Sketch):
                with self.subTest(value=value):
                    self.assertIs(False, example_sketch() == value)
                    self.assertIs(False, value == example_sketch())
                    self.assertIs(True, example_sketch() != value)


if __name__ == "__main__":
    unittest.main()
