"""Promises 10 to 13: as many ways and cases as there may be, and one more; which of the two is told first."""

import unittest

from samples import caught, example_directions, example_sketch, sketch_of
from sketchways.asking import shows_starts, shows_worth_asking, starts, worth_asking
from sketchways.comparing import alike, shows_alike
from sketchways.directions import Directions
from sketchways.errors import BadFacts, BadGoal, BadOffers, BadStart, BadWish, TooMany
from sketchways.judging import shows_verdict, verdict
from sketchways.places import filled
from sketchways.wording import cheapest, shows_cheapest

STATION = ("station", "s")
WISHES = ("comes", "stays", "true")


def lines(*rows):
    return "\n".join(rows)


# Directions by which a street answers in so many ways, if no fact is told.
WAYS_400 = Directions(lines("while left", "  go left 3", "  go on", "until not left", "  go right 2", "  go back",
                            "  go on",
                            "  until not sign oak", "    go on"))
WAYS_401 = Directions(lines("until not left", "  here", "  again 2", "    until right", "      go on", "      here",
                            "    go on",
                            "    go on", "go on"))
PAIR_400 = (Directions(lines("again 3", "  go on", "  while sign oak", "    go right 1", "here")),
            Directions(lines("while right", "  go on", "  if sign oak", "    go left 1", "here")))
PAIR_401 = (Directions(lines("go left 2", "if sign elm", "  again 3", "    go left 1", "go on")),
            Directions(lines("go left 2", "if sign oak", "  again 3", "    go right 1", "here")))

# Walks of so many cases, counted one by one.
NET_600 = ((("a", ("s", "t"), (("s", "t"),), ()), ("bb", ("q", "p", "s", "r"), (("q", "s"),), ()),
            ("q", ("r", "t", "p"), (), ("oak",))), "a.s-bb.p bb.q-bb.s bb.r-q.t q.p-q.r",
           [("full", "a"), ("only", "elm"), ("only", "oak"), ("shut", "a", "t"), ("shut", "bb", "r")])
CASES_600 = Directions(lines("until sign inn", "  if on", "    go back", "  go right 2", "go on", "if ends 3",
                             "  go back"))
START_600 = ("q", "p")
NET_601 = ((("bb", ("p", "s", "q", "t"), (("p", "s"), ("q", "t")), ("inn", "oak")),
            ("c", ("t", "r"), (("r", "t"),), ("elm",))),
           "bb.p-c.r bb.q-bb.s bb.t-c.t", [("only", "oak"), ("shut", "bb", "q"), ("shut", "bb", "t"),
                                           ("shut", "c", "t")])
CASES_601 = Directions(lines("again 2", "  until not ends 2", "    go on", "    while not ends 2", "      go back",
                             "go on",
                             "go right 1", "here"))
START_601 = ("bb", "t")

PAIR_NET_600 = ((("a", ("r",), (), ("oak",)), ("bb", ("t", "r", "s"), (("r", "t"),), ()), ("c", ("p",), (), ()),
                 ("inn", ("t", "p", "s"), (("s", "t"),), ("elm",)),
                 ("q", ("q", "p", "r", "t"), (("p", "t"), ("q", "r")), ("inn", "oak"))),
                "a.r-q.p bb.r-bb.s bb.t-q.t c.p-inn.s inn.p-q.r inn.t-q.q",
                [("full", "inn"), ("full", "q"), ("only", "elm"), ("only", "inn"), ("shut", "a", "r"),
                 ("shut", "q", "q"),
                 ("shut", "q", "r"), ("shut", "q", "t")])
PAIR_600 = (Directions(lines("if right", "  go on", "go back", "while sign inn", "  while sign inn", "    if left",
                             "      go right 1", "      go back", "  go on")),
            Directions(lines("if right", "  go on", "go back", "while sign inn", "  while sign inn", "    again 3",
                             "      go right 1", "      go back", "  go on")))
PAIR_NET_601 = ((("a", ("p", "r"), (), ()), ("bb", ("s", "p", "q", "t"), (), ()), ("c", ("q",), (), ()),
                 ("inn", ("r", "q", "p", "s"), (), ("oak",)), ("q", ("t", "r", "s", "p"), (), ("inn",))),
                "a.p-bb.q a.r-c.q bb.p-q.r bb.s-inn.r bb.t-inn.s inn.q-q.s q.p-q.t",
                [("clear", "a", "p"), ("clear", "inn", "q"), ("full", "a"), ("full", "c"), ("full", "inn"),
                 ("only", "elm"),
                 ("shut", "bb", "q"), ("shut", "inn", "s"), ("shut", "q", "t")])
PAIR_601 = (Directions(lines("while ends 3", "  if left", "    while ends 2", "      go right 2", "    go back",
                             "  go right 2",
                             "here")),
            Directions(lines("while ends 3", "  if not sign inn", "    while ends 2", "      go right 2", "    go back",
                             "  go right 2", "here")))


class VerdictTest(unittest.TestCase):
    def test_six_hundred_cases(self):
        sketch = sketch_of(*NET_600)
        found = verdict(sketch, CASES_600, START_600, "a", "true")
        self.assertEqual(("kept", 600), (found[0], len(found[1])))
        self.assertIs(True, shows_verdict(sketch, CASES_600, START_600, "a", "true", found))
        self.assertEqual("broken", verdict(sketch, CASES_600, START_600, "a", "comes")[0])

    def test_six_hundred_and_one_cases(self):
        for wish in WISHES:
            call = (sketch_of(*NET_601), CASES_601, START_601, "c", wish)
            self.assertEqual(600, caught(self, TooMany, verdict, *call).value)
            for value in (None, ("kept", ()), verdict(example_sketch(), example_directions(), STATION, "baker",
                                                      "true")):
                self.assertEqual(600, caught(self, TooMany, shows_verdict, *call, value).value)

    def test_more_than_six_hundred_cases_are_shown(self):
        sketch = sketch_of(*NET_600)
        cases = verdict(sketch, CASES_600, START_600, "a", "true")[1]
        dead = (("at", "a"), ("s", (-1,)), ((("at", "a"), ("s", (-1,)), ("lost",)),
                                            (("at", "a"), ("s", (2,)), ("here",))))
        self.assertIs(True, shows_verdict(sketch, CASES_600, START_600, "a", "true", ("kept", cases + (dead,))))

    def test_four_hundred_ways(self):
        self.assertEqual(0, filled(example_sketch(), WAYS_400, ("along", 0), ())[0])
        found = verdict(example_sketch(), WAYS_400, STATION, "baker", "comes")
        self.assertEqual("broken", found[0])
        self.assertIs(True, shows_verdict(example_sketch(), WAYS_400, STATION, "baker", "comes", found))

    def test_four_hundred_and_one_ways(self):
        for wish in WISHES:
            for facts in ((), (("clear", "bridge", "a"),), (("clear", "baker", "p"),)):
                call = (example_sketch(facts), WAYS_401, STATION, "baker", wish)
                self.assertEqual(400, caught(self, TooMany, verdict, *call).value)
                self.assertEqual(400, caught(self, TooMany, shows_verdict, *call, ("kept", ())).value)
            clear = example_sketch((("clear", "baker", "p"), ("clear", "bridge", "a")))
            self.assertIn(verdict(clear, WAYS_401, STATION, "baker", wish)[0], ("kept", "broken"))

    def test_ways_ahead_of_cases(self):
        # Where all streets but one are clear, there are too many cases already.
        again = lines("until not left", "  here", "  again 2", "    until right", "      go on", "      here",
                      "    go on",
                      "    go on", "go on", "while not sign oak", "  go right 1")
        net = sketch_of(*NET_601)
        caught(self, TooMany, verdict, net, CASES_601, START_601, "c", "comes")
        self.assertEqual(400, caught(self, TooMany, verdict, net, Directions(again), START_601, "c", "comes").value)

    def test_behind_the_other_errors(self):
        sketch = sketch_of(*NET_601)
        caught(self, BadStart, verdict, sketch, CASES_601, ("bb", "x"), "c", "comes")
        caught(self, BadGoal, verdict, sketch, CASES_601, START_601, "x", "comes")
        caught(self, BadWish, verdict, sketch, CASES_601, START_601, "c", "x")
        caught(self, BadWish, shows_verdict, sketch, CASES_601, START_601, "c", "x", None)


class StartsTest(unittest.TestCase):
    def test_cases_from_one_start(self):
        # From other stops of this sketch there are more cases than from the one above.
        sketch = sketch_of(*NET_600)
        self.assertEqual(600, caught(self, TooMany, starts, sketch, CASES_600, "a", "true").value)
        self.assertEqual(600, caught(self, TooMany, shows_starts, sketch, CASES_600, "a", "true", None).value)
        self.assertEqual(600, caught(self, TooMany, starts, sketch_of(*NET_601), CASES_601, "c", "stays").value)
        caught(self, BadGoal, starts, sketch, CASES_600, "x", "true")
        caught(self, BadWish, starts, sketch, CASES_600, "a", "x")

    def test_ways(self):
        self.assertEqual(400, caught(self, TooMany, starts, example_sketch(), WAYS_401, "baker", "true").value)
        self.assertEqual(400, caught(self, TooMany, shows_starts, example_sketch(), WAYS_401, "baker", "true",
                                     ()).value)
        self.assertEqual((), starts(sketch_of([("a", ("p",), (), ())]), WAYS_401, "a", "true"))
        self.assertEqual(4, len(starts(example_sketch(), WAYS_400, "baker", "true")))


class WorthAskingTest(unittest.TestCase):
    def test_cases(self):
        sketch = sketch_of(*NET_601)
        for facts in ((("full", "c"),), (("clear", "bb", "p"), ("clear", "bb", "q"), ("clear", "bb", "t"))):
            call = (sketch, CASES_601, START_601, "c", "comes", facts)
            self.assertEqual(600, caught(self, TooMany, worth_asking, *call).value)
            self.assertEqual(600, caught(self, TooMany, shows_worth_asking, *call, None).value)
        caught(self, BadFacts, worth_asking, sketch, CASES_601, START_601, "c", "comes", ())
        sketch = sketch_of(*NET_600)
        least, greatest = worth_asking(sketch, CASES_600, START_600, "a", "true", (("full", "q"),))
        self.assertEqual(([()], [600], ()), ([row[0] for row in least], [len(row[1]) for row in least], greatest))

    def test_ways(self):
        facts = (("clear", "baker", "p"), ("clear", "bridge", "a"))
        for told in ((), facts[:1]):
            call = (example_sketch(told), WAYS_401, STATION, "baker", "comes",
                    tuple(fact for fact in facts if fact not in told))
            self.assertEqual(400, caught(self, TooMany, worth_asking, *call).value)
            self.assertEqual(400, caught(self, TooMany, shows_worth_asking, *call, None).value)
        self.assertEqual(2, len(worth_asking(example_sketch(facts), WAYS_401, STATION, "baker", "comes",
                                             (("full", "baker"),))))


class CheapestTest(unittest.TestCase):
    def assert_too_many(self, *call):
        self.assertEqual(400, caught(self, TooMany, cheapest, *call).value)
        self.assertEqual(400, caught(self, TooMany, shows_cheapest, *call, None).value)

    def test_choice_by_choice(self):
        sketch = sketch_of([("a", ("p",), (), ()), ("b", ("q",), (), ())], "a.p-b.q")
        text = Directions(WAYS_401.text.replace("until not left", "if right"))
        # Without its lines here the wish is kept, with the other first line there are too many ways.
        offers = lambda price: ((0, "until not left", price), (1, "  go on", 1), (5, "      go right 1", 1))
        for price in (0, 1, 2):
            self.assert_too_many(sketch, text, ("a", "p"), "b", "true", offers(price))
        for price in (3, 9):
            call = (sketch, text, ("a", "p"), "b", "true", offers(price))
            found = cheapest(*call)
            self.assertEqual(("choice", 2, (1, 5)), found[:3])
            self.assertEqual([(), (1,), (5,)], [row[0] for row in found[4]])
            self.assertIs(True, shows_cheapest(*call, found))
        self.assert_too_many(sketch, text, ("a", "p"), "b", "comes", offers(9))
        self.assert_too_many(sketch, WAYS_401, ("a", "p"), "b", "true", ((1, "  go on", 0),))
        caught(self, BadOffers, cheapest, sketch, WAYS_401, ("a", "p"), "b", "true", ())

    def test_cases(self):
        call = (sketch_of(*NET_601), CASES_601, START_601, "c", "true", ((7, "go on", 0),))
        self.assertEqual(600, caught(self, TooMany, cheapest, *call).value)
        self.assertEqual(600, caught(self, TooMany, shows_cheapest, *call, None).value)


class AlikeTest(unittest.TestCase):
    def test_six_hundred_cases(self):
        sketch = sketch_of(*PAIR_NET_600)
        found = alike(sketch, *PAIR_600, ("bb", "t"))
        self.assertEqual(("alike", 600), (found[0], len(found[1])))
        self.assertIs(True, shows_alike(sketch, *PAIR_600, ("bb", "t"), found))

    def test_six_hundred_and_one_cases(self):
        call = (sketch_of(*PAIR_NET_601), *PAIR_601, ("inn", "q"))
        self.assertEqual(600, caught(self, TooMany, alike, *call).value)
        for value in (None, ("alike", ()), 1):
            self.assertEqual(600, caught(self, TooMany, shows_alike, *call, value).value)
        caught(self, BadStart, alike, *call[:3], ("inn", "x"))

    def test_four_hundred_ways(self):
        found = alike(example_sketch(), *PAIR_400, STATION)
        self.assertEqual("apart", found[0])
        self.assertIs(True, shows_alike(example_sketch(), *PAIR_400, STATION, found))

    def test_four_hundred_and_one_ways(self):
        for facts in ((), (("clear", "bridge", "a"),), (("clear", "baker", "p"),)):
            sketch = example_sketch(facts)
            self.assertEqual(400, caught(self, TooMany, alike, sketch, *PAIR_401, STATION).value)
            self.assertEqual(400, caught(self, TooMany, shows_alike, sketch, *PAIR_401, STATION, None).value)
            self.assertEqual(0, filled(sketch, PAIR_401[0], ("along", 0), ())[0])
            self.assertEqual(0, filled(sketch, PAIR_401[1], ("along", 0), ())[0])
        clear = example_sketch((("clear", "baker", "p"), ("clear", "bridge", "a")))
        self.assertIn(alike(clear, *PAIR_401, STATION)[0], ("alike", "apart"))
        caught(self, BadStart, alike, example_sketch(), *PAIR_401, None)


if __name__ == "__main__":
    unittest.main()
