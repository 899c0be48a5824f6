"""Promise 5: the operators of sketches; promise 3, (e): their mirror images."""

import operator
import unittest

from samples import FACTS, TOLD, WAYS, any_values, caught, example_sketch, example_town
from sketchways.errors import BadFacts, OtherNet
from sketchways.sketches import Sketch

CLEAR, FULL, ONLY, SHUT = ("clear", "baker", "p"), ("full", "bridge"), ("only", "inn"), ("shut", "bridge", "a")
FOUR = ("p", "q", "r", "s")
ORDERS = (operator.le, operator.lt, operator.ge, operator.gt)


def crossroads(*ends):
    """A crossing with four told ends; the gaps behind these are shut."""
    return Sketch((("a", FOUR, (), ()),), (), tuple(("shut", "a", end) for end in ends))


def other_nets():
    """Sketches of other nets than that of the example."""
    mirrored = TOLD[:1] + (("bridge", ("a", "c", "b"), (("a", "c"),), ("bridge",)),) + TOLD[2:]
    return [Sketch(TOLD, WAYS[:1]), Sketch(TOLD, ()), Sketch(TOLD[:2], WAYS[:1]), Sketch(mirrored, WAYS),
            crossroads("p")]


class JoinTest(unittest.TestCase):
    def test_either(self):
        one, other = example_sketch((CLEAR, ONLY)), example_sketch((FULL, ONLY, SHUT))
        for both in (one | other, other | one):
            self.assertIsInstance(both, Sketch)
            self.assertEqual(example_sketch((CLEAR, FULL, ONLY, SHUT)), both)
        self.assertEqual(((CLEAR, ONLY), (FULL, ONLY, SHUT)), (one.facts, other.facts))

    def test_both(self):
        one, other = example_sketch((CLEAR, ONLY, SHUT)), example_sketch((FULL, ONLY, SHUT))
        for both in (one & other, other & one):
            self.assertIsInstance(both, Sketch)
            self.assertEqual(example_sketch((ONLY, SHUT)), both)
        self.assertEqual(((CLEAR, ONLY, SHUT), (FULL, ONLY, SHUT)), (one.facts, other.facts))

    def test_nothing_in_common(self):
        one, other = example_sketch((CLEAR,)), example_sketch((SHUT,))
        self.assertEqual((CLEAR, SHUT), (other | one).facts)
        self.assertEqual((), (one & other).facts)

    def test_new_sketches(self):
        one = example_sketch(FACTS)
        for new in (one | one, one & one, one | example_sketch(), one & example_sketch(FACTS)):
            self.assertEqual(one, new)
            self.assertIsNot(one, new)
            new.tell(FULL)
            self.assertEqual(FACTS, one.facts)

    def test_change(self):
        one, other = example_sketch((CLEAR, ONLY)), example_sketch((FULL, ONLY, SHUT))
        same = one
        one |= other
        self.assertIs(same, one)
        self.assertEqual((CLEAR, FULL, ONLY, SHUT), same.facts)
        self.assertEqual((FULL, ONLY, SHUT), other.facts)
        other.forget(SHUT)
        self.assertEqual((CLEAR, FULL, ONLY, SHUT), same.facts)

    def test_change_by_itself(self):
        one = example_sketch(FACTS)
        one |= one
        self.assertEqual(FACTS, one.facts)

    def test_too_many_open_gaps(self):
        for one, other in ((crossroads("p"), crossroads("q")), (crossroads("p", "q"), crossroads("r", "s"))):
            self.assertEqual((), caught(self, BadFacts, operator.and_, one, other).value)
        one, other = crossroads("p"), crossroads("q")
        for sketch in (one, other):
            sketch.tell(("full", "a"))
            sketch.tell(("only", "inn"))
        self.assertEqual((("full", "a"), ("only", "inn")), caught(self, BadFacts, operator.and_, one, other).value)
        self.assertEqual((("full", "a"), ("only", "inn"), ("shut", "a", "p")), one.facts)
        self.assertEqual((("full", "a"), ("only", "inn"), ("shut", "a", "q")), other.facts)

    def test_few_open_gaps(self):
        self.assertEqual(crossroads("q"), crossroads("p", "q") & crossroads("q", "r"))
        self.assertEqual(crossroads("p", "q"), crossroads("q") | crossroads("p"))


class OrderTest(unittest.TestCase):
    def assert_order(self, one, other, expected):
        for call, holds in zip(ORDERS, expected):
            with self.subTest(call=call.__name__, one=one.facts, other=other.facts):
                self.assertIs(holds, call(one, other))

    def test_more_facts(self):
        more, fewer = example_sketch(FACTS), example_sketch(FACTS[1:])
        self.assert_order(more, fewer, (True, True, False, False))
        self.assert_order(fewer, more, (False, False, True, True))
        self.assert_order(more, example_sketch(), (True, True, False, False))
        self.assert_order(example_sketch(), more, (False, False, True, True))

    def test_equal_facts(self):
        for facts in ((), FACTS):
            self.assert_order(example_sketch(facts), example_sketch(facts), (True, False, True, False))
        same = example_sketch(FACTS)
        self.assert_order(same, same, (True, False, True, False))

    def test_neither(self):
        nothing = (False, False, False, False)
        self.assert_order(example_sketch((CLEAR,)), example_sketch((FULL,)), nothing)
        self.assert_order(example_sketch((FULL,)), example_sketch((CLEAR,)), nothing)
        self.assert_order(example_sketch((CLEAR, FULL)), example_sketch((FULL, ONLY)), nothing)
        self.assert_order(example_sketch((CLEAR, FULL)), example_sketch((ONLY,)), nothing)
        self.assert_order(example_sketch((ONLY,)), example_sketch((CLEAR, FULL)), nothing)

    def test_nothing_is_changed(self):
        one, other = example_sketch(FACTS), example_sketch(FACTS[1:])
        for call in ORDERS + (operator.eq, operator.ne):
            call(one, other)
            self.assertEqual((FACTS, FACTS[1:]), (one.facts, other.facts))


class OtherNetTest(unittest.TestCase):
    def test_the_right_operand(self):
        for other in other_nets():
            one = example_sketch(FACTS)
            facts = other.facts
            for call in ORDERS + (operator.or_, operator.and_, operator.ior):
                with self.subTest(call=call.__name__, other=other.net):
                    self.assertIs(other, caught(self, OtherNet, call, one, other).value)
                    self.assertIs(one, caught(self, OtherNet, call, other, one).value)
                    self.assertEqual((FACTS, facts), (one.facts, other.facts))

    def test_facts_do_not_make_a_net(self):
        self.assertTrue(example_sketch(FACTS) <= example_sketch())


class NoSketchTest(unittest.TestCase):
    def test_type_error(self):
        values = [value for value in any_values() if not isinstance(value, Sketch)]
        for value in values + [example_town(), FACTS, (TOLD, WAYS)]:
            for call in ORDERS + (operator.or_, operator.and_, operator.ior):
                with self.subTest(call=call.__name__, value=value):
                    sketch = example_sketch(FACTS)
                    with self.assertRaises(TypeError):
                        call(sketch, value)
                    if call is not operator.ior:
                        with self.assertRaises(TypeError):
                            call(value, sketch)
                    self.assertEqual(FACTS, sketch.facts)

    def test_operators_that_are_not_described(self):
        one, other = example_sketch(), example_sketch()
        for call in (operator.add, operator.sub, operator.xor, operator.mul):
            self.assertRaises(TypeError, call, one, other)


class MirrorTest(unittest.TestCase):
    def test_example(self):
        more = example_sketch(FACTS)
        mirror = ~more
        self.assertIsInstance(mirror, Sketch)
        self.assertEqual(("a", "c", "b"), mirror.crossings[1][1])
        self.assertEqual(("shut", "bridge", "b"), mirror.facts[2])
        self.assertEqual((TOLD[0], ("bridge", ("a", "c", "b"), (("a", "c"),), ("bridge",)), TOLD[2]), mirror.crossings)
        self.assertEqual(WAYS, mirror.streets)
        self.assertEqual(FACTS[:2] + (("shut", "bridge", "b"),), mirror.facts)
        self.assertEqual(example_sketch(FACTS), more)

    def test_rounds_and_gaps(self):
        # The ends, those by which gaps are shut, and the same in the mirror image.
        for ends, shut, turned, mirrored in (
                (("p",), ("p",), ("p",), ("p",)),
                (("p", "q"), ("p",), ("p", "q"), ("q",)),
                (("p", "q"), ("q",), ("p", "q"), ("p",)),
                (("q", "p"), ("p", "q"), ("q", "p"), ("p", "q")),
                (("p", "q", "r"), ("p",), ("p", "r", "q"), ("q",)),
                (("p", "q", "r"), ("q",), ("p", "r", "q"), ("r",)),
                (("p", "q", "r"), ("r",), ("p", "r", "q"), ("p",)),
                (("q", "r", "p"), ("p", "r"), ("q", "p", "r"), ("p", "q")),
                (FOUR, ("p",), ("p", "s", "r", "q"), ("q",)),
                (FOUR, ("q", "s"), ("p", "s", "r", "q"), ("p", "r")),
                (FOUR, ("r", "s"), ("p", "s", "r", "q"), ("p", "s")),
                (("s", "p", "r", "q"), ("p", "q", "r"), ("s", "q", "r", "p"), ("q", "r", "s")),
        ):
            sketch = Sketch((("a", ends, (), ("inn",)),), (), tuple(("shut", "a", end) for end in shut))
            image = Sketch((("a", turned, (), ("inn",)),), (), tuple(("shut", "a", end) for end in mirrored))
            with self.subTest(ends=ends, shut=shut):
                self.assertEqual(image, ~sketch)
                self.assertEqual(sketch, ~image)
                self.assertEqual(sketch, ~~sketch)

    def test_gaps_of_several_crossings(self):
        crossings = (("a", ("p", "q", "r"), (), ()), ("b", ("r", "q", "p"), (("p", "q"),), ()))
        streets = ((("a", "p"), ("b", "p")), (("a", "q"), ("a", "r")))
        facts = (("clear", "a", "p"), ("clear", "a", "q"), ("full", "b"), ("only", "q"),
                 ("shut", "a", "r"), ("shut", "b", "q"))
        mirror = ~Sketch(crossings, streets, facts)
        self.assertEqual((("a", ("p", "r", "q"), (), ()), ("b", ("r", "p", "q"), (("p", "q"),), ())), mirror.crossings)
        self.assertEqual(streets, mirror.streets)
        self.assertEqual(facts[:4] + (("shut", "a", "p"), ("shut", "b", "p")), mirror.facts)

    def test_twice(self):
        for facts in ((), FACTS, example_sketch().tellable()):
            self.assertEqual(example_sketch(facts), ~~example_sketch(facts))

    def test_a_new_sketch(self):
        sketch = Sketch((("a", ("p",), (), ()),), ())
        mirror = ~sketch
        self.assertEqual(sketch, mirror)
        mirror.tell(("full", "a"))
        self.assertEqual(0, len(sketch))

    def test_more_facts_stay_more(self):
        more, fewer = example_sketch(FACTS), example_sketch(FACTS[:2])
        self.assertTrue(~more < ~fewer)
        self.assertEqual(~(more | fewer), ~more | ~fewer)


if __name__ == "__main__":
    unittest.main()
