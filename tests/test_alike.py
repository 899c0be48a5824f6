"""Promise 13: two directions; promise 3, (a) to (e), for them."""

import itertools
import unittest

from samples import (FACTS, all_fillings, any_values, caught, cost_of_fit, example_directions, example_sketch,
                     example_town, filled_town, sketch_of)
from sketchways.comparing import alike, shows_alike
from sketchways.directions import Directions
from sketchways.errors import BadStart
from sketchways.fits import fit, shows_fit
from sketchways.towns import Town

FIRST = (-1,)
STATION = ("station", "s")
PLACES = (("at", "baker"), ("at", "bridge"), ("at", "station"), ("along", 0), ("along", 1))
EMPTY = dict(zip(PLACES, (((0,), ()), ((0, 0, 0), ()), ((0,), ()), (), ())))
TWIN = "while not sign bridge\n  go on\ngo left 1\nhere"
OTHER = "until sign bridge\n  go on\ngo right 1\nhere"
# A street from a to b, with nothing further but perhaps at b.
END = (("clear", "a", "p"), ("full", "a"), ("shut", "a", "p"))


def lines(*rows):
    return "\n".join(rows)


def street(facts=END, straight=()):
    return sketch_of([("a", ("p",), (), ()), ("b", ("q",), (), ())], "a.p-b.q", facts)


def walk_of_two(sketch, town, fit, texts, start):
    """How two walk at the same time: "apart", how they end, or None if they do not."""
    rounds, ways = fit
    by_end = {(row[0], end): (row[0], number) for row, numbers in zip(sketch.crossings, rounds)
              for end, number in zip(row[1], numbers)}
    inside = {by_end[stop] for pair in sketch.streets for stop in pair}
    inside |= {(name, end) for way in ways for name, one, other in way for end in (one, other)}
    walkers = [Directions(text) for text in texts]
    stop, states, been = town[by_end[start]], [FIRST, FIRST], set()
    while (stop, *states) not in been:
        been.add((stop, *states))
        ends, hows = [], []
        for k in (0, 1):
            done = walkers[k].act(states[k], town.view(stop))
            end = town.taken(stop, done[1]) if done[0] == "go" else None
            if done[0] != "go":
                hows.append(done[0])
            elif end is None or (stop[0], end) not in inside:
                hows.append("lost" if end is None else "leaves")
            else:
                ends.append(end)
                states[k] = done[2]
        if hows:
            return hows[0] if len(hows) == 2 and hows[0] == hows[1] else "apart"
        if ends[0] != ends[1]:
            return "apart"
        stop = town[stop[0], ends[0]]
    return None


class AlikeCase(unittest.TestCase):
    def assert_alike(self, sketch, one, other, start, many=None):
        for pair in ((one, other), (other, one)):
            with self.subTest(pair=pair, start=start):
                found = alike(sketch, Directions(pair[0]), Directions(pair[1]), start)
                self.assertEqual(("alike", 2), (found[0], len(found)))
                self.assertEqual(tuple(sorted(set(found[1]))), found[1])
                if many is not None:
                    self.assertEqual(many, len(found[1]))
                self.assertIs(True, shows_alike(sketch, Directions(pair[0]), Directions(pair[1]), start, found))
                turned = alike(~sketch, ~Directions(pair[0]), ~Directions(pair[1]), start)
                self.assertEqual(("alike", len(found[1])), (turned[0], len(turned[1])))

    def assert_apart(self, sketch, one, other, start, cost):
        for pair in ((one, other), (other, one)):
            with self.subTest(pair=pair, start=start):
                found = alike(sketch, Directions(pair[0]), Directions(pair[1]), start)
                self.assertEqual(("apart", 3, Town), (found[0], len(found), found[1].__class__))
                self.assertIs(True, shows_fit(sketch, *found[1:]))
                self.assertEqual("apart", walk_of_two(sketch, *found[1:], pair, start))
                self.assertEqual(cost, cost_of_fit(sketch, *found[1:]))
                self.assertIs(True, shows_alike(sketch, Directions(pair[0]), Directions(pair[1]), start, found))
                turned = alike(~sketch, ~Directions(pair[0]), ~Directions(pair[1]), start)
                self.assertEqual(("apart", cost), (turned[0], cost_of_fit(~sketch, *turned[1:])))


class AlikeTest(AlikeCase):
    def test_example(self):
        text = example_directions().text
        self.assert_alike(example_sketch(), text, TWIN, STATION)
        self.assert_apart(example_sketch(), text, OTHER, STATION, 0)
        self.assert_alike(example_sketch(), text, text, STATION)
        self.assert_alike(example_sketch(FACTS), text, TWIN, STATION, 7)

    def test_cases(self):
        clear = example_sketch(FACTS + (("shut", "bridge", "b"),)) | example_sketch((("clear", "bridge", "a"),))
        first, left = (("along", 1), (1, FIRST, FIRST)), (("at", "bridge"), ("a", FIRST, FIRST))
        out, baker = (("along", 0), (1, (2,), (1,))), (("at", "baker"), ("p", (2,), (1,)))
        one, two = (*first, ("out", 0, FIRST, FIRST)), (*left, ("go", "b", (2,), (1,)))
        three = (*out, ("out", 0, (2,), (1,)))
        text = lines("if left", "  go left 1", "here")
        self.assertEqual(("alike", ((*out, (one, two)), (*first, ()), (*baker, (three, one, two)), (*left, (one,)))),
                         alike(clear, example_directions(), Directions(text), STATION))
        self.assertEqual(("alike", ((*out[:1], (1, (1,), (2,)), (one, (*left, ("go", "b", (1,), (2,))))), (*first, ()),
                                    (*baker[:1], ("p", (1,), (2,)),
                                     ((*out[:1], (1, (1,), (2,)), ("out", 0, (1,), (2,))), one,
                                      (*left, ("go", "b", (1,), (2,))))), (*left, (one,)))),
                         alike(clear, Directions(text), example_directions(), STATION))

    def test_ends_of_one_kind(self):
        start, bare = ("a", "p"), street(END + (("full", "b"), ("shut", "b", "q")))
        self.assert_alike(bare, "here", "if not on\n  here", start, 2)
        self.assert_alike(bare, "go on", "if on\n  here", start, 2)
        self.assert_alike(bare, "go left 1\nhere", "go right 3\ngo back", start, 2)
        self.assert_alike(bare, "while not on\n  if left\n    here", "until left\n  if on\n    here", start, 2)
        texts = ("here", "go on", "while not on\n  if left\n    here", "go back")
        for one, other in itertools.combinations(texts, 2):
            self.assert_apart(bare, one, other, start, 0)

    def test_who_leaves_by_unlike_ends(self):
        sketch = sketch_of([("a", ("p",), (), ()), ("b", ("q", "r", "s"), (("q", "r"),), ())], "a.p-b.q", END)
        start = ("a", "p")
        self.assert_alike(sketch, "go on\nhere", "go on\ngo back", start, 2)
        self.assert_alike(sketch, "go on", "go right 1", start, 2)
        self.assert_apart(sketch, "go on", "go left 1", start, 0)
        self.assert_apart(sketch, "go on", "go right 2", start, 0)
        self.assert_alike(sketch, "go right 1\ngo on", "if ends 3\n  go right 1\ngo on", start, 2)
        # At a further crossing, too.
        sketch = street((("full", "a"), ("full", "b"), ("shut", "a", "p"), ("shut", "b", "q"), ("only", "oak")))
        text = "if left\n  go {} 1\nif right\n  go {} 1\nhere"
        self.assert_alike(sketch, text.format("left", "right"), text.format("left", "right"), start, 2)
        self.assert_apart(sketch, text.format("left", "right"), text.format("right", "right"), start, 2)
        self.assert_apart(sketch, "go left 1", "if left\n  go left 1\nif on\n  go on\nhere", start, 0)
        one = lines("if left", "  if right", "    go left 1", "here")
        self.assert_alike(sketch, one, one.replace("go left", "go right"), start, 2)
        self.assert_apart(sketch, one, one.replace("here", "go back"), start, 0)

    def test_to_and_fro_together(self):
        sketch = street((("full", "a"), ("full", "b"), ("shut", "a", "p"), ("shut", "b", "q"), ("only", "oak")))
        start = ("a", "p")
        one = lines("if on", "  go on", "  while on", "    go back", "here")
        other = lines("while on", "  go on", "  until not on", "    go back", "here")
        self.assert_alike(sketch, one, one + "\nhere", start)
        self.assert_alike(sketch, one, other, start)
        found = alike(sketch, Directions(one), Directions(other), start)
        self.assertEqual({("along", 0), ("at", "b")}, {case[0] for case in found[1]})

    def test_round_over_cases(self):
        sketch, start = street(END + (("full", "b"), ("shut", "b", "q"))), ("a", "p")
        self.assert_alike(sketch, "until on\n  go back", "while not on\n  go back\n  go back", start)
        self.assert_apart(sketch, "until on\n  go back", "while not on\n  go back\n  go back\n  here", start, 0)
        self.assert_apart(sketch, "until on\n  go back", lines("again 3", "  again 3", "    go back", "here"), start, 0)

    def test_who_acts_round_ends(self):
        sketch, start = street(END + (("full", "b"), ("shut", "b", "q"))), ("a", "p")
        self.assert_alike(sketch, "until on\n  if on\n    here", "while not on\n  if on\n    go back", start, 2)
        self.assert_apart(sketch, "until on\n  if on\n    here", "while not on\n  go back", start, 0)

    def test_least_costs(self):
        start = ("a", "p")
        for other, cost in (("if sign inn\n  go back\nhere", 1), ("if ends 3\n  go back\nhere", 3),
                            ("if sign inn\n  if ends 2\n    go back\nhere", 3),
                            ("if sign inn\n  if sign oak\n    here\n  go back\nhere", 1),
                            ("if sign a\n  if sign b\n    if sign c\n      go on\nhere", 3)):
            self.assert_apart(street(), "here", other, start, cost)
        self.assert_alike(street(END + (("full", "b"), ("shut", "b", "q"))), "here", "if sign inn\n  go back\nhere",
                          start)
        self.assert_apart(street(END), "if sign inn\n  go back\nhere", "if sign oak\n  go back\nhere", start, 1)
        self.assert_apart(street(END + (("only", "oak"),)), "if sign inn\n  go back\nhere",
                          "if sign oak\n  go back\nhere",
                          start, 1)
        self.assert_alike(street(END + (("only", "inn"), ("only", "oak"))), "if sign inn\n  go back\nhere",
                          "if sign oak\n  go back\nhere", start)
        both = ("if sign inn\n  if sign oak\n    go back\nhere", "if sign a\n  if sign oak\n    go back\nhere")
        self.assert_apart(street(END), *both, start, 2)

    def test_eight_signs(self):
        one = lines(*[f"if not sign {word}\n  here" for word in ("a", "b", "c", "d")], "go back")
        other = lines(*[f"if not sign {word}\n  here" for word in ("e", "f", "g", "h")], "go back")
        self.assert_apart(street(END + (("shut", "b", "q"),)), one, other, ("a", "p"), 4)
        only = lines("if not sign a", "  here", "if not sign b", "  here", "if sign c", "  if sign d", "    go back",
                     "here")
        text = lines("if not sign e", "  here", "if not sign f", "  here", "if sign g", "  if sign h", "    go back",
                     "here")
        self.assert_apart(street(END + (("shut", "b", "q"),)), only, text, ("a", "p"), 4)

    def test_what_is_unknown_stays(self):
        one = lines("if sign inn", "  go back", "  go back", "here")
        other = lines("if sign inn", "  go back", "  go back", "  if not sign inn", "    go on", "here")
        self.assert_alike(street(), one, other, ("a", "p"))
        other = lines("if sign inn", "  go back", "  go back", "  if sign oak", "    go on", "here")
        self.assert_apart(street(), one, other, ("a", "p"), 2)

    def test_no_town_of_less_cost(self):
        sketch = sketch_of([("a", ("p", "q"), (("p", "q"),), ()), ("b", ("r",), (), ("bridge",))], "a.p-b.r")
        texts = ("if left\n  go left 2\nuntil sign inn\n  go on\nhere",
                 "if left\n  go left 2\nif not sign inn\n  go on\nhere",
                 "until sign inn\n  go on\nhere", "go back\nuntil sign inn\n  go on\nhere",
                 "if ends 2\n  go back\ngo on\nhere",
                 "if ends 2\n  go on\ngo on\nhere")
        for pair in itertools.combinations(texts, 2):
            found = alike(sketch, Directions(pair[0]), Directions(pair[1]), ("b", "r"))
            cost = 4 if found[0] == "alike" else cost_of_fit(sketch, *found[1:])
            for less in range(min(cost, 4)):
                for fillings in all_fillings(sketch, ("inn",), less):
                    town, found = filled_town(sketch, fillings)
                    self.assertNotEqual("apart", walk_of_two(sketch, town, found, pair, ("b", "r")))

    def test_more_facts(self):
        pairs = ((example_directions().text, lines("until sign bridge", "  go on", "if right", "  go right 1",
                                                   "go left 1", "here")),
                 (example_directions().text, lines("while not sign bridge", "  go on", "if ends 3", "  here",
                                                   "go left 1", "here")))
        for one, other in pairs:
            told = {}
            facts = FACTS + (("shut", "bridge", "c"), ("shut", "bridge", "b"))
            for some in itertools.chain.from_iterable(itertools.combinations(facts, k) for k in range(6)):
                sketch = example_sketch(tuple(sorted(some)))
                told[some] = alike(sketch, Directions(one), Directions(other), STATION)[0] == "alike"
            self.assertEqual({True, False}, set(told.values()))
            for some, more in itertools.product(told, told):
                if set(some) <= set(more):
                    self.assertLessEqual(told[some], told[more])

    def test_names_of_arguments(self):
        named = {"start": STATION, "other": Directions(TWIN), "one": example_directions(), "sketch": example_sketch()}
        found = alike(**named)
        self.assertEqual("alike", found[0])
        self.assertIs(True, shows_alike(value=found, **named))

    def test_a_sketch_that_is_changed_in_between(self):
        sketch, one, other = street(END), Directions("here"), Directions("if sign inn\n  go back\nhere")
        self.assertEqual("apart", alike(sketch, one, other, ("a", "p"))[0])
        sketch.tell(("only", "inn"))
        self.assertEqual("alike", alike(sketch, one, other, ("a", "p"))[0])
        sketch.forget(("only", "inn"))
        self.assertEqual("apart", alike(sketch, one, other, ("a", "p"))[0])
        self.assertTrue(one == Directions("here") and sketch == street(END))


class ShowsAlikeTest(unittest.TestCase):
    def shown(self, value, sketch=None, other=TWIN):
        return shows_alike(example_sketch(FACTS) if sketch is None else sketch, example_directions(),
                           Directions(other), STATION,
                           value)

    def setUp(self):
        self.cases = alike(example_sketch(FACTS), example_directions(), Directions(TWIN), STATION)[1]

    def test_any_sequence(self):
        for cases in itertools.islice(itertools.permutations(self.cases), 0, 5040, 297):
            self.assertIs(True, self.shown(("alike", cases)))

    def test_each_case_once(self):
        for k, case in enumerate(self.cases):
            self.assertIs(False, self.shown(("alike", self.cases[:k] + self.cases[k + 1:])))
            self.assertIs(False, self.shown(("alike", self.cases + (case,))))
        self.assertIs(False, self.shown(("alike", ())))

    def test_more_cases(self):
        state = (2,)
        at_baker = (("at", "baker"), ("p", state, state), ())
        self.assertIs(True, self.shown(("alike", self.cases + (at_baker,))))
        along = (("along", 0), (1, state, state), ())
        self.assertIs(False, self.shown(("alike", self.cases + (along,))))
        row = (*along[:2], ("out", 0, state, state))
        self.assertIs(True, self.shown(("alike", self.cases + (along, (*at_baker[:2], (row,))))))
        # Of two in these states one would stay, and one go on.
        apart = (("at", "baker"), ("p", state, FIRST), ())
        self.assertIs(False, self.shown(("alike", self.cases + (apart,))))
        # It cannot be known that they end alike there; so nothing follows.
        never = (*apart[:2], ((*apart[:2], ("end", "here")),))
        self.assertIs(True, self.shown(("alike", self.cases + (never,))))
        known = (*apart[:2], ((*apart[:2], ("apart",)),))
        self.assertIs(False, self.shown(("alike", self.cases + (known,))))

    def test_cases_that_go_round(self):
        sketch = street(END + (("full", "b"), ("shut", "b", "q")))
        one, other = Directions("until on\n  go back"), Directions("while not on\n  go back\n  go back")
        found = alike(sketch, one, other, ("a", "p"))
        self.assertEqual("alike", found[0])
        self.assertIs(True, shows_alike(sketch, one, other, ("a", "p"), ("alike", found[1][::-1])))
        self.assertIs(False, shows_alike(sketch, one, other, ("a", "p"), ("alike", found[1][1:])))

    def test_forms(self):
        place, question, known = self.cases[0]
        for case in ((place, question), [place, question, known], (place, question, list(known)),
                     (place, question[:2], known),
                     (place, (*question, FIRST), known), (place, (1, (2,), (3,)), known),
                     (place, (1, (True,), (2,)), known),
                     (place, (True, *question[1:]), known), (place, question, known[::-1]),
                     (place, question, known + known),
                     (place, question, ((*known[0][:2], ("out", 0, FIRST)),)),
                     (place, question, ((*known[0][:2], ("end",)),)),
                     (place, question, ((*known[0][:2], ("here",)),)),
                     (place, question, ((*known[0][:2], ("end", "out")),)),
                     (place, question, ((*known[0][:2], ("end", "apart")),)),
                     (place, question, ((*known[0][:2], ("end", "here", 0)),)),
                     (place, question, ((*known[0][:2], ("out", 0, FIRST, (3,))),)),
                     (place, question, ((*known[0][:2], ("out", False, FIRST, FIRST)),)),
                     (place, question, ((known[0][0], (1, FIRST), known[0][2]),))):
            with self.subTest(case=case):
                self.assertIs(False, self.shown(("alike", (case,) + self.cases[1:])))
                self.assertIs(False, self.shown(("alike", self.cases + (case,))))
        cases = self.cases
        for value in any_values() + [("alike",), ("alike", cases, ()), ["alike", cases], ("kept", cases),
                                     ("apart", cases),
                                     ("alike", list(cases)), (True, cases), cases]:
            self.assertIs(False, self.shown(value))
        for value in any_values():
            self.assertIs(False, self.shown(("alike", value)))
            self.assertIs(False, self.shown((value, cases)))
            self.assertIs(False, self.shown(("alike", cases + (value,))))
            self.assertIs(False, self.shown(("alike", cases + ((place, value, known),))))
            self.assertIs(False, self.shown(("alike", cases + ((value, question, known),))))
            self.assertIs(False, self.shown(("alike", cases + ((place, question, (value,)),))))

    def test_all_forms_of_answers(self):
        # Nothing follows from what cannot be, so each such case may be added; a form that is none may not.
        place, question = ("at", "baker"), ("p", FIRST, FIRST)
        for told in (("end", "here"), ("end", "lost"), ("end", "leaves"), ("end", "round"), ("go", "p", (2,), FIRST)):
            known = (place, ("p", FIRST, (2,)), told)
            self.assertIs(True, self.shown(("alike", self.cases + ((place, question, (known,)),))), told)
        for side in (0, 1):
            known = (("along", 0), (1, FIRST, (2,)), ("out", side, (1,), FIRST))
            self.assertIs(True, self.shown(("alike", self.cases + ((("along", 0), (1, FIRST, FIRST), (known,)),))))

    def broken(self, fillings):
        return "apart", *filled_town(example_sketch(), {**EMPTY, **fillings})

    def test_towns_of_any_cost(self):
        sketch = example_sketch()
        for fillings in ({}, {("at", "bridge"): ((0, 2, 0), ("inn",))}, {("along", 1): ((1, 1, ()), (0, 0, ("oak",)))}):
            self.assertIs(True, self.shown(self.broken(fillings), sketch, OTHER))
            self.assertIs(False, self.shown(self.broken(fillings), sketch, TWIN))
        for told, shown in (({}, False), ({("along", 1): ((0, 0, ("inn",)),)}, True),
                            ({("along", 0): ((0, 0, ("inn",)),)}, False)):
            other = lines("until sign bridge", "  if sign inn", "    here", "  go on", "go left 1", "here")
            self.assertIs(shown, self.shown(self.broken(told), sketch, other))
        self.assertIs(False, self.shown(self.broken({("along", 0): ((0, 0, ()),)}), example_sketch(FACTS), OTHER))
        self.assertIs(True, self.shown(self.broken({}), example_sketch(FACTS), OTHER))

    def test_towns_by_how_two_walk(self):
        sketch, shown = example_sketch(), set()
        texts = (example_directions().text, OTHER, "go on", "go back\nuntil sign inn\n  go on", "here",
                 "if left\n  go left 2\nhere",
                 "until sign inn\n  go on\nhere", "while on\n  if not on\n    here",
                 "while sign bridge\n  if sign inn\n    go on",
                 "until sign elm\n  go back", "while not sign elm\n  go back\n  go back")
        for fillings in ({}, {("at", "bridge"): ((1, 0, 1), ("inn",))}, {("along", 1): ((1, 0, ("inn",)), (0, 2, ()))}):
            town, found = filled_town(sketch, {**EMPTY, **fillings})
            for one, other in itertools.product(texts, texts):
                apart = walk_of_two(sketch, town, found, (one, other), STATION) == "apart"
                shown.add(apart)
                self.assertIs(apart, shows_alike(sketch, Directions(one), Directions(other), STATION,
                                                 ("apart", town, found)))
        self.assertEqual({True, False}, shown)

    def test_forms_of_what_is_apart(self):
        sketch = example_sketch()
        word, town, found = self.broken({})
        self.assertIs(True, self.shown((word, town, found), sketch, OTHER))
        self.assertIs(True, self.shown((word, example_town(), fit(sketch, example_town())), sketch, OTHER))
        for value in ((word, town), (word, town, found, ()), [word, town, found], ("broken", town, found),
                      (word, found, town),
                      (True, town, found), (word, town, None), (word, town, list(found)), (word, town, (found[0], ())),
                      (word, town, (found[0][:2], found[1])), (word, town, (((False,), *found[0][1:]), found[1]))):
            self.assertIs(False, self.shown(value, sketch, OTHER))
        for value in any_values():
            self.assertIs(False, self.shown((word, town, value), sketch, OTHER))
            self.assertIs(value.__class__ is Town, self.shown((word, value, found), sketch, OTHER))
            self.assertIs(False, self.shown((value, town, found), sketch, OTHER))


class ErrorsTest(unittest.TestCase):
    def test_any_values(self):
        sketch, one, other = example_sketch(), example_directions(), Directions(OTHER)
        for value in any_values() + [("bridge", "c"), ("station", "p"), ["station", "s"], ("station", "s", 0)]:
            self.assertIs(value, caught(self, BadStart, alike, sketch, one, other, value).value)
            self.assertIs(value, caught(self, BadStart, shows_alike, sketch, one, other, value, None).value)


if __name__ == "__main__":
    unittest.main()
