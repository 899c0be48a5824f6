"""Promise 5: facts that are told and forgotten, and copies."""

import unittest

from samples import FACTS, TOLD, WAYS, any_values, caught, example_sketch
from sketchways.errors import BadFact, NotTold, Told
from sketchways.sketches import Sketch

TELLABLE = (
    ("clear", "baker", "p"), ("clear", "bridge", "a"),
    ("full", "baker"), ("full", "bridge"), ("full", "station"),
    ("only", "bread"), ("only", "bridge"),
    ("shut", "baker", "p"), ("shut", "bridge", "a"), ("shut", "bridge", "b"), ("shut", "bridge", "c"),
    ("shut", "station", "s"),
)
NO_FACTS = [
    ("clear", "bridge", "b"), ("clear", "bridge", "c"), ("clear", "station", "s"), ("clear", "baker"),
    ("full", "yard"), ("full", "baker", "p"), ("only", ""), ("only", "abcdefghi"), ("only", "Inn"), ("only", 1),
    ("only",), ("only", "inn", "inn"), ("shut", "baker", "a"), ("shut", "yard", "p"), ("shut", "baker"),
    ["full", "baker"], ["only", "inn"], ("open", "baker"), "full baker", FACTS, FACTS[:1],
]
FOUR = ("p", "q", "r", "s")


def crossroads(*ends):
    """A crossing with four told ends; the gaps behind these are shut."""
    return Sketch((("a", FOUR, (), ()),), (), tuple(("shut", "a", end) for end in ends))


class TellTest(unittest.TestCase):
    def test_tell_one(self):
        for fact in TELLABLE + (("only", "inn"), ("only", "z")):
            with self.subTest(fact=fact):
                sketch = example_sketch()
                self.assertIsNone(sketch.tell(fact))
                self.assertEqual((fact,), sketch.facts)

    def test_tell_by_name(self):
        sketch = example_sketch()
        sketch.tell(fact=("full", "baker"))
        self.assertEqual((("full", "baker"),), sketch.facts)

    def test_facts_stay_ascending(self):
        for told in (TELLABLE, TELLABLE[::-1], TELLABLE[6:] + TELLABLE[:6], TELLABLE[::2] + TELLABLE[1::2],
                     TELLABLE[1::2][::-1] + TELLABLE[::2]):
            sketch = example_sketch()
            for k, fact in enumerate(told):
                sketch.tell(fact)
                self.assertEqual(tuple(sorted(told[:k + 1])), sketch.facts)
            self.assertEqual(TELLABLE, sketch.facts)

    def test_names_that_begin_alike(self):
        sketch = example_sketch()
        for sign in ("ab", "b", "a", "abc", "aa"):
            sketch.tell(("only", sign))
        self.assertEqual(tuple(("only", sign) for sign in ("a", "aa", "ab", "abc", "b")), sketch.facts)

    def test_bad_facts(self):
        for value in any_values() + NO_FACTS:
            with self.subTest(value=value):
                sketch = example_sketch(FACTS)
                self.assertIs(value, caught(self, BadFact, sketch.tell, value).value)
                self.assertIs(value, caught(self, BadFact, sketch.tell, fact=value).value)
                self.assertEqual(example_sketch(FACTS), sketch)

    def test_told(self):
        for fact in FACTS:
            sketch = example_sketch(FACTS)
            again = tuple(list(fact))
            self.assertIs(again, caught(self, Told, sketch.tell, again).value)
            self.assertEqual(FACTS, sketch.facts)

    def test_the_net_stays(self):
        sketch = example_sketch()
        sketch.tell(("full", "baker"))
        self.assertEqual(((TOLD, WAYS), TOLD, WAYS), (sketch.net, sketch.crossings, sketch.streets))


class ForgetTest(unittest.TestCase):
    def test_forget_each(self):
        for k, fact in enumerate(TELLABLE):
            sketch = example_sketch(TELLABLE)
            self.assertIsNone(sketch.forget(fact))
            self.assertEqual(TELLABLE[:k] + TELLABLE[k + 1:], sketch.facts)

    def test_forget_all(self):
        sketch = example_sketch(FACTS)
        for fact in FACTS:
            sketch.forget(fact=fact)
        self.assertEqual(example_sketch(), sketch)

    def test_bad_facts(self):
        for value in any_values() + NO_FACTS:
            with self.subTest(value=value):
                sketch = example_sketch(FACTS)
                self.assertIs(value, caught(self, BadFact, sketch.forget, value).value)
                self.assertIs(value, caught(self, BadFact, sketch.forget, fact=value).value)
                self.assertEqual(example_sketch(FACTS), sketch)

    def test_not_told(self):
        for fact in (("clear", "bridge", "a"), ("full", "baker"), ("only", "bread"), ("only", "inn"),
                     ("shut", "bridge", "b")):
            sketch = example_sketch(FACTS)
            self.assertIs(fact, caught(self, NotTold, sketch.forget, fact).value)
            self.assertEqual(FACTS, sketch.facts)

    def test_forgotten_facts_can_be_told_again(self):
        sketch = example_sketch(FACTS)
        sketch.forget(FACTS[1])
        caught(self, NotTold, sketch.forget, FACTS[1])
        sketch.tell(FACTS[1])
        caught(self, Told, sketch.tell, FACTS[1])
        self.assertEqual(FACTS, sketch.facts)


class OpenGapsTest(unittest.TestCase):
    def test_the_last_shut_gap(self):
        for end in FOUR:
            sketch = crossroads(end)
            fact = ("shut", "a", end)
            self.assertIs(fact, caught(self, BadFact, sketch.forget, fact).value)
            self.assertEqual((fact,), sketch.facts)

    def test_one_of_two_shut_gaps(self):
        sketch = crossroads("p", "r")
        sketch.forget(("shut", "a", "p"))
        self.assertEqual((("shut", "a", "r"),), sketch.facts)
        caught(self, BadFact, sketch.forget, ("shut", "a", "r"))

    def test_a_gap_that_is_not_told(self):
        sketch = crossroads("p")
        self.assertEqual(("shut", "a", "q"), caught(self, NotTold, sketch.forget, ("shut", "a", "q")).value)

    def test_other_facts_can_be_forgotten(self):
        sketch = crossroads("p")
        sketch.tell(("full", "a"))
        sketch.tell(("only", "a"))
        sketch.forget(("full", "a"))
        sketch.forget(("only", "a"))
        self.assertEqual(crossroads("p"), sketch)

    def test_another_crossing(self):
        crossings = (("a", FOUR, (), ()), ("b", FOUR, (), ()))
        sketch = Sketch(crossings, (), (("shut", "a", "p"), ("shut", "b", "p"), ("shut", "b", "q")))
        caught(self, BadFact, sketch.forget, ("shut", "a", "p"))
        sketch.forget(("shut", "b", "p"))
        caught(self, BadFact, sketch.forget, ("shut", "b", "q"))
        self.assertEqual((("shut", "a", "p"), ("shut", "b", "q")), sketch.facts)

    def test_three_told_ends(self):
        sketch = example_sketch((("shut", "bridge", "a"),))
        sketch.forget(("shut", "bridge", "a"))
        self.assertEqual((), sketch.facts)


class InAndLenTest(unittest.TestCase):
    def test_in(self):
        sketch = example_sketch(FACTS)
        for fact in TELLABLE + (("only", "inn"),):
            self.assertIs(fact in FACTS, fact in sketch)

    def test_any_values(self):
        sketch = example_sketch(FACTS)
        for value in any_values() + NO_FACTS + ["clear", "only", list(FACTS[0])]:
            with self.subTest(value=value):
                self.assertIs(False, value in sketch)

    def test_len(self):
        sketch = example_sketch()
        self.assertEqual(0, len(sketch))
        for k, fact in enumerate(TELLABLE):
            sketch.tell(fact)
            self.assertEqual(k + 1, len(sketch))
            self.assertIs(True, fact in sketch)
        sketch.forget(TELLABLE[0])
        self.assertEqual(len(TELLABLE) - 1, len(sketch))
        self.assertIs(False, TELLABLE[0] in sketch)


class CopyTest(unittest.TestCase):
    def test_an_equal_sketch(self):
        sketch = example_sketch(FACTS)
        other = sketch.copy()
        self.assertIsNot(sketch, other)
        self.assertIsInstance(other, Sketch)
        self.assertEqual(sketch, other)
        self.assertEqual((TOLD, WAYS, FACTS), (other.crossings, other.streets, other.facts))

    def test_each_changes_alone(self):
        sketch = example_sketch(FACTS)
        other = sketch.copy()
        other.tell(("full", "baker"))
        self.assertEqual(FACTS, sketch.facts)
        sketch.forget(FACTS[0])
        self.assertEqual(tuple(sorted(FACTS + (("full", "baker"),))), other.facts)
        self.assertEqual(FACTS[1:], sketch.facts)
        other |= example_sketch(TELLABLE)
        self.assertEqual(FACTS[1:], sketch.facts)

    def test_what_was_told_is_copied(self):
        sketch = example_sketch()
        sketch.tell(("only", "inn"))
        self.assertEqual((("only", "inn"),), sketch.copy().facts)
        self.assertEqual(crossroads("q"), crossroads("q").copy())


class TellableTest(unittest.TestCase):
    def test_example(self):
        self.assertEqual(TELLABLE, example_sketch().tellable())

    def test_told_or_not(self):
        self.assertEqual(TELLABLE, example_sketch(FACTS).tellable())
        self.assertEqual(TELLABLE, example_sketch(TELLABLE).tellable())

    def test_only_of_signs_that_are_told_at_a_crossing(self):
        self.assertEqual(TELLABLE, example_sketch((("only", "inn"), ("only", "station"))).tellable())

    def test_a_sign_at_two_crossings(self):
        crossings = (("a", ("q", "p"), (), ("inn", "oak")), ("b", ("p",), (), ("elm", "inn")))
        self.assertEqual((("full", "a"), ("full", "b"), ("only", "elm"), ("only", "inn"), ("only", "oak"),
                          ("shut", "a", "p"), ("shut", "a", "q"), ("shut", "b", "p")),
                         Sketch(crossings, ()).tellable())

    def test_no_streets_and_no_signs(self):
        self.assertEqual((("full", "a"), ("shut", "a", "p")), Sketch((("a", ("p",), (), ()),), ()).tellable())

    def test_all_of_them_can_be_told(self):
        self.assertEqual(TELLABLE, example_sketch(example_sketch().tellable()).facts)


if __name__ == "__main__":
    unittest.main()
