"""Promise 10: what shows_verdict takes for a verdict, and what not."""

import itertools
import unittest

from samples import FACTS, any_values, example_directions, example_sketch, example_town, filled_town, sketch_of
from sketchways.directions import Directions
from sketchways.fits import fit
from sketchways.judging import shows_verdict, verdict

FIRST = (-1,)
STATION = ("station", "s")
PLACES = (("at", "baker"), ("at", "bridge"), ("at", "station"), ("along", 0), ("along", 1))
EMPTY = dict(zip(PLACES, (((0,), ()), ((0, 0, 0), ()), ((0,), ()), (), ())))


def lines(*rows):
    return "\n".join(rows)


def example_cases():
    return verdict(example_sketch(FACTS), example_directions(), STATION, "baker", "comes")[1]


def behind(case, answer):
    """What is known behind this case with this answer."""
    return tuple(sorted({*case[2], (case[0], case[1], answer)}))


class KeptTest(unittest.TestCase):
    def shown(self, cases, wish="comes"):
        return shows_verdict(example_sketch(FACTS), example_directions(), STATION, "baker", wish, ("kept", cases))

    def test_any_sequence(self):
        for cases in itertools.islice(itertools.permutations(example_cases()), 0, 5040, 97):
            self.assertIs(True, self.shown(cases))

    def test_each_case_once(self):
        cases = example_cases()
        for k, case in enumerate(cases):
            self.assertIs(False, self.shown(cases[:k] + cases[k + 1:]), case)
            self.assertIs(False, self.shown(cases + (case,)), case)
            self.assertIs(False, self.shown((case,) + cases), case)
        self.assertIs(False, self.shown(()))

    def test_more_cases(self):
        cases = example_cases()
        at_bridge = (("at", "bridge"), ("a", FIRST), ())
        along = (("along", 0), (1, (2,)), behind(at_bridge, ("go", "b", (2,))))
        at_baker = (("at", "baker"), ("p", (2,)), behind(along, ("out", 0, (2,))))
        self.assertIs(True, self.shown(cases + (at_baker,)))
        self.assertIs(True, self.shown(cases + (at_baker, along)))
        self.assertIs(True, self.shown((at_bridge, at_baker) + cases + (along,)))
        self.assertIs(False, self.shown(cases + (along,)))
        self.assertIs(False, self.shown(cases + (at_bridge, at_baker)))

    def test_more_cases_that_break_the_wish(self):
        # At the bridge it would be wrong to be in the last state.
        wrong = (("at", "bridge"), ("a", (2,)), ())
        self.assertIs(False, self.shown(example_cases() + (wrong,)))
        self.assertIs(False, self.shown(example_cases() + (wrong,), "true"))
        self.assertIs(True, self.shown(example_cases() + (wrong,), "stays"))

    def test_cases_without_an_answer(self):
        cases = example_cases()
        no_bridge = (("at", "bridge"), ("a", FIRST), ("go", "b", (1,)))
        never = (("along", 0), (1, FIRST), ("lost",))
        for known in ((no_bridge,), (never, no_bridge)):
            for question in (("a", FIRST), ("a", (2,)), ("b", (1,))):
                self.assertIs(True, self.shown(cases + ((("at", "bridge"), question, known),)))
        self.assertIs(True, self.shown(cases + ((("along", 0), (1, FIRST), (never,)),)))
        # What is known of another place says nothing of this one.
        self.assertIs(False, self.shown(cases + ((("at", "bridge"), ("a", (2,)), (never,)),)))
        self.assertIs(False, self.shown(cases + ((("at", "baker"), ("p", FIRST), (no_bridge,)),)))

    def test_an_answer_that_is_known_is_the_only_one(self):
        cases = example_cases()
        street = ("along", 1)
        never = (street, (1, FIRST), ((street, (1, FIRST), ("lost",)),))
        self.assertIs(True, self.shown(cases + (never,)))
        more = ((street, (0, FIRST), ("out", 1, FIRST)),)
        self.assertIs(False, self.shown(cases + ((street, (1, FIRST), more),)))
        case = (street, (1, FIRST), ((street, (1, FIRST), ("out", 0, FIRST)),))
        at_bridge = (("at", "bridge"), ("a", FIRST), case[2])
        self.assertIn(at_bridge, cases)
        self.assertIs(True, self.shown(cases + (case,)))

    def test_forms(self):
        cases = example_cases()
        place, question, known = cases[0]
        for case in ((place, question), (place, question, known, ()), [place, question, known],
                     (place, question, list(known)),
                     (list(place), question, known), (place, list(question), known), (question, place, known),
                     (("along", 2), question, known), (("along", False), question, known),
                     (("at", "yard"), question, known),
                     (place, (True, (2,)), known), (place, (2, (2,)), known), (place, (1, (0,)), known),
                     (place, (1, [2]), known), (place, (1, 2), known), (place, (1, (2,), (2,)), known),
                     (place, ("b", (2,)), known),
                     (place, question, known[::-1]), (place, question, known + known), (place, question, known[:1] * 2),
                     (place, question, (known[0][:2],)), (place, question, (known[0] + (0,),)),
                     (place, question, (list(known[0]),)), (place, question, ((("at", "yard"), *known[0][1:]),)),
                     (place, question, ((known[0][0], (True, FIRST), known[0][2]),)),
                     (place, question, ((*known[0][:2], ("out", False, FIRST)),)),
                     (place, question, ((*known[0][:2], ("out", 2, FIRST)),)),
                     (place, question, ((*known[0][:2], ("go", 0, FIRST)),)),
                     (place, question, ((*known[0][:2], "lost"),)),
                     (place, question, ((*known[0][:2], ("end", "lost")),)),
                     (place, question, ((*known[0][:2], ("apart",)),)),
                     (place, question, ((*known[0][:2], ("out", 0, FIRST)), (*known[0][:2], ("out", 0, (1,)))))):
            with self.subTest(case=case):
                self.assertIs(False, self.shown((case,) + cases[1:]))
                self.assertIs(False, self.shown(cases + (case,)))
        for value in any_values():
            self.assertIs(False, self.shown(value))
            self.assertIs(False, self.shown(cases + (value,)))
            for at in range(3):
                self.assertIs(False, self.shown(cases + ((*cases[0][:at], value, *cases[0][at + 1:]),)) and value != ())
            self.assertIs(False, self.shown(cases + ((place, question, (value,)),)))
            for at in range(3):
                row = (*known[0][:at], value, *known[0][at + 1:])
                self.assertIs(False, self.shown(cases + ((place, question, (row,)),)))

    def test_values_of_other_forms(self):
        cases = example_cases()
        for value in any_values() + [("kept",), ("kept", cases, ()), ["kept", cases], ("true", cases), cases,
                                     ("kept", list(cases)),
                                     (True, cases), ("alike", cases), ("broken", cases), {"kept": cases}]:
            self.assertIs(False, shows_verdict(example_sketch(FACTS), example_directions(), STATION, "baker", "comes",
                                               value))

    def test_cases_of_what_is_broken(self):
        sketch, directions = example_sketch(FACTS[1:]), example_directions()
        self.assertIs(False, shows_verdict(sketch, directions, STATION, "baker", "comes", ("kept", example_cases())))
        self.assertIs(False, shows_verdict(example_sketch(FACTS), directions, STATION, "bridge", "comes",
                                           ("kept", example_cases())))
        self.assertIs(True, shows_verdict(example_sketch(FACTS), directions, STATION, "bridge", "stays",
                                          ("kept", example_cases())))
        self.assertIs(False, shows_verdict(example_sketch(FACTS), directions, ("baker", "p"), "baker", "stays",
                                           ("kept", example_cases())))


class RoundTest(unittest.TestCase):
    """Cases that lead to themselves: only those that come need not do so."""

    SKETCH = sketch_of([("a", ("p",), (), ()), ("b", ("q",), (), ())], "a.p-b.q",
                       [("clear", "a", "p"), ("full", "a"), ("full", "b"), ("shut", "a", "p"), ("shut", "b", "q")])
    DIRECTIONS = Directions(lines("here", "while not left", "  go back"))

    def shown(self, cases, wish):
        return shows_verdict(self.SKETCH, self.DIRECTIONS, ("a", "p"), "b", wish, ("kept", cases))

    def test_more_cases_that_go_round(self):
        found = verdict(self.SKETCH, self.DIRECTIONS, ("a", "p"), "b", "comes")
        self.assertEqual(("kept", 2), (found[0], len(found[1])))
        street, state = ("along", 0), (2,)
        known = tuple(sorted(((("at", "a"), ("p", state), ("go", "p", state)),
                              (("at", "b"), ("q", state), ("go", "q", state)),
                              (street, (0, state), ("out", 1, state)), (street, (1, state), ("out", 0, state)))))
        ring = tuple((place, question, known) for place, question, told in known)
        self.assertEqual((True, True, False), tuple(self.shown(found[1] + ring, wish) for wish in ("true", "stays",
                                                                                                   "comes")))
        for k in range(4):
            self.assertIs(False, self.shown(found[1] + ring[:k] + ring[k + 1:], "true"))
        # One who comes to the ring goes round, too.
        less = tuple(row for row in known if row[0] != ("at", "b"))
        ahead = (("at", "b"), ("q", state), less)
        self.assertEqual((True, True, False), tuple(self.shown(found[1] + ring + (ahead,), wish)
                                                    for wish in ("true", "stays", "comes")))
        # Nothing is to be done there where the end is known to be lost.
        lost = (("at", "b"), ("q", state), ((("at", "b"), ("q", state), ("lost",)),))
        self.assertIs(True, self.shown(found[1] + (lost,), "comes"))

    def test_cases_that_go_round_and_come(self):
        directions = Directions(lines("while not left", "  go back"))
        for wish, kept in (("true", "kept"), ("stays", "kept"), ("comes", "broken")):
            found = verdict(self.SKETCH, directions, ("a", "p"), "b", wish)
            self.assertEqual(kept, found[0])
            self.assertIs(True, shows_verdict(self.SKETCH, directions, ("a", "p"), "b", wish, found))
        cases = verdict(self.SKETCH, directions, ("a", "p"), "b", "true")[1]
        self.assertIs(True, shows_verdict(self.SKETCH, directions, ("a", "p"), "b", "stays", ("kept", cases[::-1])))
        self.assertIs(False, shows_verdict(self.SKETCH, directions, ("a", "p"), "b", "comes", ("kept", cases)))


class BrokenTest(unittest.TestCase):
    def shown(self, value, wish="comes", facts=(), goal="baker"):
        return shows_verdict(example_sketch(facts), example_directions(), STATION, goal, wish, value)

    def broken(self, fillings):
        return "broken", *filled_town(example_sketch(), {**EMPTY, **fillings})

    def test_towns_of_any_cost(self):
        leaves = (({("at", "bridge"): ((1, 0, 0), ())}), {("at", "bridge"): ((4, 2, 1), ("inn", "oak"))},
                  {("at", "bridge"): ((1, 4, 0), ()), ("along", 0): ((3, 0, ("elm",)),)})
        for fillings in leaves:
            value = self.broken(fillings)
            self.assertEqual((True, False, True), tuple(self.shown(value, wish) for wish in ("comes", "true", "stays")))
        wrong = ({("along", 0): ((0, 0, ()),)}, {("along", 0): ((0, 4, ("inn",)),), ("at", "bridge"): ((0, 2, 1), ())})
        for fillings in wrong:
            value = self.broken(fillings)
            self.assertEqual((True, True, False), tuple(self.shown(value, wish) for wish in ("comes", "true", "stays")))
        lost = {("along", 1): ((0, 0, ("bridge",)),)}
        self.assertEqual((True, False, True), tuple(self.shown(self.broken(lost), wish) for wish in ("comes", "true",
                                                                                                     "stays")))

    def test_towns_in_which_the_wish_is_kept(self):
        for fillings in ({}, {("along", 1): ((1, 2, ("inn",)),)}, {("at", "bridge"): ((0, 4, 4), ("oak",))}):
            value = self.broken(fillings)
            for wish in ("comes", "true", "stays"):
                self.assertIs(False, self.shown(value, wish))
            self.assertIs(True, self.shown(value, goal="bridge"))

    def test_other_towns(self):
        town = example_town()
        self.assertIs(False, self.shown(("broken", town, fit(example_sketch(), town))))
        self.assertIs(True, self.shown(("broken", town, fit(example_sketch(), town)), goal="station"))

    def test_towns_that_hold_no_sketch_of_such_facts(self):
        for fillings, fact in (({("at", "bridge"): ((1, 0, 0), ())}, FACTS[2]),
                               ({("along", 0): ((0, 0, ()),)}, FACTS[0]),
                               ({("along", 1): ((0, 0, ("bridge",)),)}, FACTS[1])):
            value = self.broken(fillings)
            self.assertIs(True, self.shown(value, facts=tuple(other for other in FACTS if other != fact)))
            self.assertIs(False, self.shown(value, facts=(fact,)))
            self.assertIs(False, self.shown(value, facts=FACTS))

    def test_fits(self):
        word, town, found = self.broken({("along", 0): ((0, 0, ()),)})
        rounds, ways = found
        self.assertIs(True, self.shown((word, town, found)))
        for other in (None, (), (rounds,), (ways, rounds), (rounds, ()), (rounds, ((), ())), (rounds, ways[::-1]),
                      list(found),
                      (list(rounds), ways), (rounds, list(ways)), (rounds, ways, ()),
                      (rounds, ((("qaa", False, 1),), ())),
                      (((False,), *rounds[1:]), ways), (((1,), *rounds[1:]), ways),
                      ((rounds[0], (0, 2, 1), rounds[2]), ways),
                      *any_values()):
            self.assertIs(False, self.shown((word, town, other)))

    def test_forms(self):
        word, town, found = self.broken({("along", 0): ((0, 0, ()),)})
        for value in any_values() + [(word, town), (word, town, found, ()), [word, town, found], ("kept", town, found),
                                     (town, found), (town, word, found), (word, found, town), (word, (town, found)),
                                     ("apart", town, found), (True, town, found),
                                     (word, (town.crossings, town.streets), found)]:
            self.assertIs(False, self.shown(value))
        for value in any_values():
            self.assertIs(False, self.shown((word, value, found)))
            self.assertIs(False, self.shown((value, town, found)))


if __name__ == "__main__":
    unittest.main()
