"""Promise 12: the cheapest wording."""

import itertools
import unittest

from samples import FACTS, any_values, caught, cost_of_fit, example_directions, example_sketch, filled_town, sketch_of
from sketchways.directions import Directions
from sketchways.errors import BadGoal, BadOffers, BadStart, BadText, BadWish, TooMany
from sketchways.judging import shows_verdict, verdict
from sketchways.towns import Town
from sketchways.wording import cheapest, shows_cheapest

STATION = ("station", "s")
PLACES = (("at", "baker"), ("at", "bridge"), ("at", "station"), ("along", 0), ("along", 1))
EMPTY = dict(zip(PLACES, (((0,), ()), ((0, 0, 0), ()), ((0,), ()), (), ())))
OTHER = "until sign bridge\n  go on\ngo right 1\nhere"
OFFERS = ((1, "  go back", 0), (2, "go left 1", 3))


def lines(*rows):
    return "\n".join(rows)


def with_lines(text, offers, chosen):
    rows = text.split("\n")
    for line, row, price in offers:
        if line in chosen:
            rows[line] = row
    return Directions("\n".join(rows))


class CheapestTest(unittest.TestCase):
    def assert_cheapest(self, sketch, text, start, goal, wish, offers, expected, tried):
        """What is returned but for cases and towns; these as the verdicts say."""
        with self.subTest(text=text, wish=wish, offers=offers):
            found = cheapest(sketch, Directions(text), start, goal, wish, offers)
            self.assertEqual(expected, found[:-2] if found[0] == "choice" else found[:1])
            self.assertEqual(tried, [row[0] for row in found[-1]])
            told = {lines: verdict(sketch, with_lines(text, offers, lines), start, goal, wish)
                    for lines in tried + ([found[2]] if found[0] == "choice" else [])}
            if found[0] == "choice":
                self.assertEqual(5, len(found))
                self.assertEqual(("kept", found[3]), told[found[2]])
            else:
                self.assertEqual(2, len(found))
            for chosen, town, fit in found[-1]:
                directions = with_lines(text, offers, chosen)
                self.assertIs(True, shows_verdict(sketch, directions, start, goal, wish, ("broken", town, fit)))
                self.assertEqual(cost_of_fit(sketch, *told[chosen][1:]), cost_of_fit(sketch, town, fit))
            self.assertIs(True, shows_cheapest(sketch, Directions(text), start, goal, wish, offers, found))

    def test_example(self):
        self.assert_cheapest(example_sketch(FACTS), OTHER, STATION, "baker", "comes", OFFERS, ("choice", 3, (2,)),
                             [(), (1,), (1, 2)])
        found = cheapest(example_sketch(FACTS), Directions(OTHER), STATION, "baker", "comes", OFFERS)
        self.assertEqual(7, len(found[3]))

    def test_nothing_needs_to_be_said(self):
        for prices in ((0, 0), (1, 9)):
            offers = tuple((*offer[:2], price) for offer, price in zip(OFFERS, prices))
            self.assert_cheapest(example_sketch(FACTS), example_directions().text, STATION, "baker", "comes", offers,
                                 ("choice", 0, ()), [])

    def test_none(self):
        self.assert_cheapest(example_sketch(), OTHER, STATION, "baker", "comes", OFFERS, ("none",),
                             [(), (1,), (1, 2), (2,)])
        self.assert_cheapest(example_sketch(FACTS), OTHER, STATION, "baker", "comes", OFFERS[:1], ("none",), [(), (1,)])

    def test_the_order_of_choices(self):
        sketch, text = example_sketch(), lines("go on", "go on", "go on", "go on")
        offers = ((0, "go back", 1), (1, "go back", 2), (2, "go back", 1), (3, "go back", 4))
        tried = sorted(itertools.chain.from_iterable(itertools.combinations((0, 1, 2, 3), k) for k in range(5)),
                       key=lambda some: (sum(offers[k][2] for k in some), some))
        self.assert_cheapest(sketch, text, STATION, "baker", "comes", offers, ("none",), tried)
        self.assertEqual([(), (0,), (2,), (0, 2), (1,), (0, 1), (1, 2), (0, 1, 2), (3,)], tried[:9])
        offers = tuple((*offer[:2], 0) for offer in offers)
        self.assert_cheapest(sketch, text, STATION, "baker", "comes", offers, ("none",), sorted(tried))
        offers = tuple((*offer[:2], 9) for offer in offers)
        self.assert_cheapest(sketch, text, STATION, "baker", "comes", offers, ("none",),
                             sorted(tried, key=lambda some: (len(some), some)))

    def test_the_first_one_of_several(self):
        text = lines("until sign bridge", "  go back", "go right 1", "here")
        offers = ((1, "  go on", 2), (2, "go left 1", 2), (3, "go back", 0))
        self.assert_cheapest(example_sketch(FACTS), text, STATION, "baker", "comes", offers, ("choice", 4, (1, 2)),
                             [(), (3,), (1,), (1, 3), (2,), (2, 3)])
        self.assert_cheapest(example_sketch(FACTS), text, STATION, "baker", "true", offers, ("choice", 0, ()), [])
        text = lines("if sign bridge", "  go on", "if sign bread", "  here", "go on")
        offers = ((1, "  go left 1", 5), (2, "if sign bridge", 5))
        sketch = example_sketch(FACTS + (("shut", "bridge", "c"),))
        self.assert_cheapest(sketch, text, STATION, "bridge", "true", offers, ("choice", 5, (2,)), [(), (1,)])
        self.assert_cheapest(sketch, text, STATION, "baker", "stays", offers, ("none",), [(), (1,), (2,), (1, 2)])
        clear = example_sketch(tuple(sorted(FACTS + (("clear", "bridge", "a"),))))
        self.assert_cheapest(clear, text, STATION, "baker", "comes", offers, ("choice", 5, (1,)), [()])

    def test_signs_and_blocks_of_other_lines(self):
        clear = example_sketch(tuple(sorted(FACTS + (("clear", "bridge", "a"),))))
        text = lines("while sign inn", "  go on", "go left 1", "until sign bread", "  go back", "here")
        offers = ((0, "if not sign bridge", 1), (3, "if not sign oak", 1), (4, "  here", 3))
        self.assert_cheapest(clear, text, STATION, "baker", "comes", offers, ("choice", 1, (0,)), [()])

    def test_names_of_arguments(self):
        named = {"offers": OFFERS, "wish": "comes", "goal": "baker", "start": STATION, "directions": Directions(OTHER),
                 "sketch": example_sketch(FACTS)}
        found = cheapest(**named)
        self.assertIs(True, shows_cheapest(value=found, **named))

    def test_nothing_is_changed(self):
        sketch, directions = example_sketch(FACTS), Directions(OTHER)
        first = cheapest(sketch, directions, STATION, "baker", "comes", OFFERS)
        self.assertTrue(sketch == example_sketch(FACTS) and directions == Directions(OTHER))
        sketch.forget(FACTS[0])
        self.assertEqual("none", cheapest(sketch, directions, STATION, "baker", "comes", OFFERS)[0])
        sketch.tell(FACTS[0])
        self.assertEqual(first[:4], cheapest(sketch, directions, STATION, "baker", "comes", OFFERS)[:4])


class ShowsCheapestTest(unittest.TestCase):
    def setUp(self):
        self.found = cheapest(example_sketch(FACTS), Directions(OTHER), STATION, "baker", "comes", OFFERS)

    def shown(self, value, facts=FACTS):
        return shows_cheapest(example_sketch(facts), Directions(OTHER), STATION, "baker", "comes", OFFERS, value)

    def test_cases(self):
        word, price, chosen, cases, reasons = self.found
        self.assertIs(True, self.shown((word, price, chosen, cases[::-1], reasons)))
        for other in (cases[1:], cases + cases[:1], list(cases), (), None, ("kept", cases)):
            self.assertIs(False, self.shown((word, price, chosen, other, reasons)))

    def test_towns(self):
        word, price, chosen, cases, reasons = self.found
        town, fit = filled_town(example_sketch(), {**EMPTY, ("at", "bridge"): ((0, 1, 2), ("inn",))})
        # With an end on the right the first wording leads away; the second one turns back at once ahead of the bridge.
        for k in range(3):
            rows = list(reasons)
            rows[k] = (rows[k][0], town, fit)
            shown = shows_verdict(example_sketch(FACTS), with_lines(OTHER, OFFERS, rows[k][0]), STATION, "baker",
                                  "comes",
                                  ("broken", town, fit))
            self.assertIs(shown, self.shown((word, price, chosen, cases, tuple(rows))))
            rows[k] = (rows[k][0], town, None)
            self.assertIs(False, self.shown((word, price, chosen, cases, tuple(rows))))

    def test_forms(self):
        word, price, chosen, cases, reasons = self.found
        self.assertIs(True, self.shown(self.found))
        for value in ((word, price, chosen, cases), (word, price, chosen, cases, reasons, ()), list(self.found),
                      ("none", price, chosen, cases, reasons), (word, 4, chosen, cases, reasons),
                      (word, True, chosen, cases, reasons),
                      (word, "3", chosen, cases, reasons), (word, price, (1, 2), cases, reasons),
                      (word, price, [2], cases, reasons),
                      (word, price, (), cases, reasons), (word, price, 2, cases, reasons),
                      (word, price, chosen, cases, reasons[:2]),
                      (word, price, chosen, cases, reasons[::-1]), (word, price, chosen, cases, list(reasons)),
                      (word, price, chosen, cases, reasons + reasons[:1]), (word, price, chosen, cases, reasons[1:]),
                      (word, price, chosen, cases, (list(reasons[0]),) + reasons[1:]), ("none", reasons), ("none", ()),
                      (word, price, chosen, cases, (reasons[0][:2],) + reasons[1:]),
                      (word, price, chosen, cases, (([], *reasons[0][1:]),) + reasons[1:]),
                      (word, price, chosen, cases, (reasons[0], ((True,), *reasons[1][1:]), reasons[2]))):
            self.assertIs(False, self.shown(value))
        for value in any_values():
            self.assertIs(False, self.shown(value))
            for k in range(5):
                self.assertIs(False, self.shown((*self.found[:k], value, *self.found[k + 1:])))
            self.assertIs(False, self.shown((*self.found[:4], (value,) + reasons[1:])))
            self.assertIs(False, self.shown((*self.found[:4], ((*reasons[0][:2], value),) + reasons[1:])))
            # In the town of the examples one who goes right is lost.
            lost = value.__class__ is Town
            self.assertIs(lost, self.shown((*self.found[:4], ((reasons[0][0], value, reasons[0][2]),) + reasons[1:])))

    def test_none(self):
        found = cheapest(example_sketch(), Directions(OTHER), STATION, "baker", "comes", OFFERS)
        reasons = found[1]
        self.assertIs(True, self.shown(found, ()))
        for value in (("none", reasons[:3]), ("none",), ("none", reasons, ()), ["none", reasons],
                      ("none", list(reasons)),
                      ("choice", reasons), ("none", reasons[::-1]), self.found, (None, reasons)):
            self.assertIs(False, self.shown(value, ()))
        for value in any_values():
            self.assertIs(False, self.shown(value, ()))
            self.assertIs(False, self.shown(("none", value), ()))
            self.assertIs(False, self.shown(("none", reasons[:3] + (value,)), ()))

    def test_no_price_is_a_bool(self):
        sketch, directions = example_sketch(FACTS), Directions(OTHER)
        offers = ((2, "go left 1", 1),)
        found = cheapest(sketch, directions, STATION, "baker", "comes", offers)
        self.assertEqual(("choice", 1, (2,)), found[:3])
        self.assertIs(True, shows_cheapest(sketch, directions, STATION, "baker", "comes", offers, found))
        self.assertIs(False, shows_cheapest(sketch, directions, STATION, "baker", "comes", offers,
                                            ("choice", True, *found[2:])))


class ErrorsTest(unittest.TestCase):
    def raised(self, error, start, goal, wish, offers, text=OTHER):
        sketch, directions = example_sketch(FACTS), Directions(text)
        value = caught(self, error, cheapest, sketch, directions, start, goal, wish, offers).value
        self.assertIs(value, caught(self, error, shows_cheapest, sketch, directions, start, goal, wish, offers,
                                    0).value)
        return value

    def assert_bad_offers(self, offers, text=OTHER):
        with self.subTest(offers=offers):
            self.assertIs(offers, self.raised(BadOffers, STATION, "baker", "comes", offers, text))

    def assert_good_offers(self, offers, text=OTHER):
        found = cheapest(example_sketch(FACTS), Directions(text), STATION, "baker", "true", offers)
        self.assertIn(found[0], ("choice", "none"))

    def test_any_values(self):
        for value in any_values():
            self.assertIs(value, self.raised(BadStart, value, "baker", "comes", OFFERS))
            self.assertIs(value, self.raised(BadGoal, STATION, value, "comes", OFFERS))
            self.assertIs(value, self.raised(BadWish, STATION, "baker", value, OFFERS))
            self.assert_bad_offers(value)
            self.assert_bad_offers(OFFERS[:1] + (value,))
            self.assert_bad_offers(((1, value, 0),))
            if value not in (0, 1) or isinstance(value, bool):
                self.assert_bad_offers(((value, "  go back", 0),))
                self.assert_bad_offers(((1, "  go back", value),))

    def test_forms(self):
        self.assert_bad_offers(())
        self.assert_bad_offers(list(OFFERS))
        self.assert_bad_offers(OFFERS[::-1])
        self.assert_bad_offers(OFFERS[:1] * 2)
        self.assert_bad_offers(OFFERS[0])
        self.assert_bad_offers(([1, "  go back", 0],))
        self.assert_bad_offers(((1, "  go back"),))
        self.assert_bad_offers(((1, "  go back", 0, 0),))
        self.assert_bad_offers(((1, "  go back", 0), (1, "  go left 1", 0)))
        self.assert_good_offers(((1, "  go back", 0),))

    def test_lines(self):
        self.assert_bad_offers(((4, "here", 0),))
        self.assert_bad_offers(((-1, "here", 0),))
        self.assert_bad_offers(((True, "  go back", 0),))
        self.assert_good_offers(((0, "while not sign bridge", 0), (1, "  go on", 0), (2, "here", 9), (3, "go back", 1)))
        rows = "go on\ngo on\ngo on\ngo on\ngo on"
        offers = tuple((k, "go back", 1) for k in range(5))
        self.assert_bad_offers(offers, rows)
        self.assert_good_offers(offers[:4], rows)

    def test_prices(self):
        for price in (10, -1, "1", True, None, (0,)):
            self.assert_bad_offers(((1, "  go back", price),))
        self.assert_good_offers(((1, "  go back", 9),))

    def test_texts(self):
        for text in ("go back", "    go back", "  go", "  go back ", "  go back\n  go on", "\n  go back",
                     "  go back\n", "", "  go left 4",
                     " go back", "  if on", "  else", "here", "  until sign inn"):
            self.assert_bad_offers(((1, text, 0),))
        for text in ("go left 1", "  go left 1", "here", "go on"):
            self.assert_good_offers(((2, text, 0),))
        self.assert_bad_offers(((3, "if on", 0),))
        self.assert_bad_offers(((0, "go on", 0),))

    def test_choices_of_several(self):
        # Each of the two alone makes no Directions, though both together would.
        self.assert_bad_offers(((0, "go on", 0), (1, "go on", 0)))
        # The second one makes Directions only without the first one.
        text = lines("if on", "  go on", "if left", "  go back", "else", "  here")
        self.assert_good_offers(((2, "if right", 0),), text)
        self.assert_bad_offers(((2, "until left", 0),), text)
        text = lines("if on", "  here", "go on", "here")
        self.assert_good_offers(((2, "  go on", 0),), text)

    def test_too_many_signs_and_states(self):
        text = lines("if sign a", "  here", "if sign b", "  here", "if sign c", "  here", "if sign d", "  here")
        self.assertEqual(4, caught(self, TooMany, Directions, text + lines("", "if sign e", "  here")).value)
        rows = text + lines("", "if on", "  here")
        self.assert_bad_offers(((8, "if sign e", 0),), rows)
        self.assert_good_offers(((8, "if sign d", 0),), rows)
        rows = lines("if on", "  here", "if on", "  here", "if sign a", "  here", "if sign b", "  here", "if sign c",
                     "  here")
        self.assert_good_offers(((0, "if sign d", 0),), rows)
        self.assert_good_offers(((2, "if sign e", 0),), rows)
        self.assert_bad_offers(((0, "if sign d", 0), (2, "if sign e", 0)), rows)
        rows = lines("again 3", "  go on", "  go on", "  go on", "if on", "  here", "go on", "here")
        self.assert_good_offers(((5, "  go on", 0),), rows)
        self.assert_good_offers(((7, "go on", 0),), rows)
        self.assert_bad_offers(((5, "  go on", 0), (7, "go on", 0)), rows)

    def test_too_many_lines(self):
        rows = "\n".join(["go on"] * 11 + ["here"] * 9)
        self.assert_good_offers(((19, "go back", 0),), "\n".join(["here"] * 20))
        self.assert_bad_offers(((19, "go back", 0),), rows)
        caught(self, BadText, Directions, "\n".join(["here"] * 21))

    def test_order(self):
        self.assertEqual(1, self.raised(BadStart, 1, 2, 3, 4))
        self.assertEqual(2, self.raised(BadGoal, STATION, 2, 3, 4))
        self.assertEqual(3, self.raised(BadWish, STATION, "baker", 3, 4))
        self.assertEqual(4, self.raised(BadOffers, STATION, "baker", "comes", 4))

    def test_a_sketch_of_no_further_things(self):
        sketch = sketch_of([("a", ("p",), (), ()), ("b", ("q",), (), ())], "a.p-b.q",
                           [("clear", "a", "p"), ("full", "b"), ("shut", "b", "q")])
        found = cheapest(sketch, Directions("go on"), ("a", "p"), "b", "comes", ((0, "here", 9),))
        self.assertEqual(("choice", 9, (0,), 2), (*found[:3], len(found[3])))
        self.assertEqual([()], [row[0] for row in found[4]])


if __name__ == "__main__":
    unittest.main()
