"""Promise 11: facts that are worth asking for."""

import itertools
import unittest

from samples import FACTS, any_values, caught, cost_of_fit, example_directions, example_sketch, filled_town, sketch_of
from sketchways.asking import shows_worth_asking, worth_asking
from sketchways.directions import Directions
from sketchways.errors import BadFacts, BadGoal, BadStart, BadWish
from sketchways.judging import shows_verdict, verdict

STATION = ("station", "s")
PLACES = (("at", "baker"), ("at", "bridge"), ("at", "station"), ("along", 0), ("along", 1))
EMPTY = dict(zip(PLACES, (((0,), ()), ((0, 0, 0), ()), ((0,), ()), (), ())))
CLEAR, ONLY, SHUT = FACTS
SIX = tuple(sorted(FACTS + (("full", "bridge"), ("clear", "bridge", "a"), ("shut", "bridge", "b"))))


def lines(*rows):
    return "\n".join(rows)


def some_of(facts):
    return sorted(itertools.chain.from_iterable(itertools.combinations(facts, k) for k in range(len(facts) + 1)))


class WorthAskingTest(unittest.TestCase):
    def assert_worth_asking(self, sketch, text, start, goal, wish, facts, least, greatest):
        """That these choices of facts are returned, and what the document says of them by all verdicts."""
        directions, told = Directions(text), {}
        for some in some_of(facts):
            more = sketch.copy()
            for fact in some:
                more.tell(fact)
            told[some] = verdict(more, directions, start, goal, wish)
        kept = {some for some in told if told[some][0] == "kept"}
        found = worth_asking(sketch, directions, start, goal, wish, facts)
        self.assertEqual((2, tuple, tuple), (len(found), found[0].__class__, found[1].__class__))
        self.assertEqual([some for some in told if some in kept and not any(
            tuple(other for other in some if other != fact) in kept for fact in some)], [row[0] for row in found[0]])
        self.assertEqual([some for some in told if some not in kept and all(
            tuple(sorted(some + (fact,))) in kept for fact in facts if fact not in some)], [row[0] for row in found[1]])
        for some, cases in found[0]:
            self.assertEqual(told[some], ("kept", cases))
        for some, town, fit in found[1]:
            more = sketch.copy()
            for fact in some:
                more.tell(fact)
            self.assertIs(True, shows_verdict(more, directions, start, goal, wish, ("broken", town, fit)))
            self.assertEqual(cost_of_fit(sketch, *told[some][1:]), cost_of_fit(sketch, town, fit))
        self.assertEqual((least, greatest), (len(found[0]), len(found[1])))
        self.assertIs(True, shows_worth_asking(sketch, directions, start, goal, wish, facts, found))

    def test_example(self):
        least, greatest = worth_asking(example_sketch(), example_directions(), STATION, "baker", "comes", FACTS)
        self.assertEqual([FACTS], [some for some, cases in least])
        self.assertEqual([(CLEAR, ONLY), (CLEAR, SHUT), (ONLY, SHUT)], [row[0] for row in greatest])
        text = example_directions().text
        self.assert_worth_asking(example_sketch(), text, STATION, "baker", "comes", FACTS, 1, 3)
        self.assert_worth_asking(example_sketch(), text, STATION, "baker", "true", FACTS, 1, 1)
        self.assert_worth_asking(example_sketch(), text, STATION, "baker", "stays", FACTS, 1, 2)

    def test_six_facts(self):
        text = example_directions().text
        self.assert_worth_asking(example_sketch(), text, STATION, "baker", "comes", SIX, 2, 3)
        self.assert_worth_asking(example_sketch(), text, STATION, "baker", "stays", SIX, 2, 2)

    def test_nothing_is_worth_asking(self):
        text = example_directions().text
        facts = (("full", "baker"), ("full", "bridge"))
        self.assert_worth_asking(example_sketch(FACTS), text, STATION, "baker", "comes", facts, 1, 0)
        self.assertEqual((), worth_asking(example_sketch(FACTS), Directions(text), STATION, "baker", "comes",
                                          facts)[0][0][0])
        self.assert_worth_asking(example_sketch(), text, STATION, "bridge", "comes", facts, 0, 1)
        self.assertEqual(facts, worth_asking(example_sketch(), Directions(text), STATION, "bridge", "comes",
                                             facts)[1][0][0])

    def test_one_fact(self):
        text = example_directions().text
        self.assert_worth_asking(example_sketch(FACTS[1:]), text, STATION, "baker", "comes", FACTS[:1], 1, 1)
        self.assert_worth_asking(example_sketch(FACTS[1:]), text, STATION, "baker", "comes", (("only", "inn"),), 0, 1)

    def test_either_of_two_facts(self):
        sketch = sketch_of([("a", ("p",), (), ()), ("b", ("q",), (), ("oak",))], "a.p-b.q", [("clear", "a", "p")])
        text = lines("if sign inn", "  if left", "    go left 1", "here")
        facts = (("full", "b"), ("only", "inn"), ("shut", "b", "q"))
        self.assert_worth_asking(sketch, text, ("a", "p"), "b", "comes", facts, 3, 1)
        text = lines("if sign inn", "  go on", "if left", "  go left 1", "here")
        self.assert_worth_asking(sketch, text, ("a", "p"), "b", "comes", facts, 2, 2)
        self.assert_worth_asking(sketch, text, ("a", "p"), "b", "comes", (("full", "a"), *facts), 2, 2)

    def test_names_of_arguments(self):
        named = {"facts": FACTS, "wish": "comes", "goal": "baker", "start": STATION, "directions": example_directions(),
                 "sketch": example_sketch()}
        found = worth_asking(**named)
        self.assertIs(True, shows_worth_asking(value=found, **named))

    def test_nothing_is_changed(self):
        sketch, directions = example_sketch(FACTS[:1]), example_directions()
        first = worth_asking(sketch, directions, STATION, "baker", "comes", FACTS[1:])
        self.assertTrue(sketch == example_sketch(FACTS[:1]) and directions == example_directions())
        self.assertEqual([row[0] for row in first[0]], [FACTS[1:]])
        sketch.tell(FACTS[1])
        self.assertEqual([FACTS[2:]], [row[0] for row in worth_asking(sketch, directions, STATION, "baker", "comes",
                                                                      FACTS[2:])[0]])


class ShowsWorthAskingTest(unittest.TestCase):
    def setUp(self):
        self.found = worth_asking(example_sketch(), example_directions(), STATION, "baker", "comes", FACTS)

    def shown(self, value):
        return shows_worth_asking(example_sketch(), example_directions(), STATION, "baker", "comes", FACTS, value)

    def test_cases(self):
        least, greatest = self.found
        cases = least[0][1]
        self.assertIs(True, self.shown((((FACTS, cases[::-1]),), greatest)))
        dead = (("at", "bridge"), ("a", (-1,)), ((("at", "bridge"), ("b", (-1,)), ("go", "b", (1,))),))
        self.assertIs(True, self.shown((((FACTS, cases + (dead,)),), greatest)))
        for other in (cases[1:], cases + cases[:1], list(cases), (), None, ("kept", cases)):
            self.assertIs(False, self.shown((((FACTS, other),), greatest)))

    def test_towns(self):
        least, greatest = self.found
        for k, filling in enumerate(({("at", "bridge"): ((2, 1, 0), ())}, {("along", 1): ((1, 0, ("bridge", "inn")),)},
                                     {("along", 0): ((0, 0, ("elm",)), (0, 0, ()))})):
            town, fit = filled_town(example_sketch(), {**EMPTY, **filling})
            for at in range(3):
                rows = list(greatest)
                rows[at] = (rows[at][0], town, fit)
                self.assertIs(at == k, self.shown((least, tuple(rows))))
            rows[k] = (rows[k][0], town, None)
            self.assertIs(False, self.shown((least, tuple(rows))))

    def test_rows(self):
        least, greatest = self.found
        self.assertIs(True, self.shown((least, greatest)))
        for value in ((greatest, least), (least,), (least, greatest, ()), [least, greatest], (list(least), greatest),
                      (least, list(greatest)), ((), greatest), (least, ()), (least, greatest[1:]),
                      (least, greatest[::-1]),
                      (least, greatest + greatest[:1]), (least + least, greatest),
                      (((FACTS[:2], least[0][1]),), greatest),
                      (((list(FACTS), least[0][1]),), greatest), ((least[0] + (0,),), greatest),
                      ((least[0][:1],), greatest),
                      (([FACTS, least[0][1]],), greatest), (least, greatest[:2] + (greatest[2][:2],)),
                      (least, greatest[:2] + (greatest[2] + (0,),)), (least, greatest[:2] + (list(greatest[2]),)),
                      (least, greatest[:2] + ((FACTS, *greatest[2][1:]),))):
            self.assertIs(False, self.shown(value))
        for value in any_values():
            self.assertIs(False, self.shown(value))
            self.assertIs(False, self.shown((value, greatest)))
            self.assertIs(False, self.shown((least, value)))
            self.assertIs(False, self.shown(((value,), greatest)))
            self.assertIs(False, self.shown((((value, least[0][1]),), greatest)))
            self.assertIs(False, self.shown((((FACTS, value),), greatest)))
            self.assertIs(False, self.shown((least, (value,) + greatest[1:])))
            for at in range(3):
                row = (*greatest[0][:at], value, *greatest[0][at + 1:])
                self.assertIs(False, self.shown((least, (row,) + greatest[1:])))


class ErrorsTest(unittest.TestCase):
    def raised(self, error, start, goal, wish, facts):
        sketch, directions = example_sketch((("full", "baker"),)), example_directions()
        value = caught(self, error, worth_asking, sketch, directions, start, goal, wish, facts).value
        self.assertIs(value, caught(self, error, shows_worth_asking, sketch, directions, start, goal, wish, facts,
                                    0).value)
        return value

    def test_any_values(self):
        for value in any_values():
            self.assertIs(value, self.raised(BadStart, value, "baker", "comes", FACTS))
            self.assertIs(value, self.raised(BadGoal, STATION, value, "comes", FACTS))
            self.assertIs(value, self.raised(BadWish, STATION, "baker", value, FACTS))
            self.assertIs(value, self.raised(BadFacts, STATION, "baker", "comes", value))
            facts = FACTS[:2] + (value,)
            self.assertIs(facts, self.raised(BadFacts, STATION, "baker", "comes", facts))

    def test_facts(self):
        seven = tuple(sorted(SIX + (("full", "station"),)))
        for facts in (seven, (), FACTS[::-1], FACTS[:1] * 2, list(FACTS), (("full", "baker"),),
                      FACTS + (("shut", "bridge", "d"),),
                      (("clear", "bridge", "b"),), (("clear", "station", "s"),), (("full", "yard"),),
                      (("only", "Inn"),),
                      (["only", "inn"],), (("only", "inn", "oak"),), ("only", "inn"), (("shut", "yard", "p"),),
                      (("wide", "inn"),),
                      (("clear", "baker", "p"), ("full", "baker"))):
            self.assertIs(facts, self.raised(BadFacts, STATION, "baker", "comes", facts))

    def test_order(self):
        self.assertEqual(1, self.raised(BadStart, 1, 2, 3, 4))
        self.assertEqual(2, self.raised(BadGoal, STATION, 2, 3, 4))
        self.assertEqual(3, self.raised(BadWish, STATION, "baker", 3, 4))
        self.assertEqual(4, self.raised(BadFacts, STATION, "baker", "comes", 4))


if __name__ == "__main__":
    unittest.main()
