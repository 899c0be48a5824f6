"""Promise 9: places, fillings, questions and their answers; promise 3, (c) and (e)."""

import unittest

from samples import (FACTS, any_values, caught, example_directions, example_sketch, filled_town, mirrored_filling,
                     sketch_of)
from sketchways.directions import Directions
from sketchways.errors import BadFilling, BadPlace, BadQuestion
from sketchways.fits import shows_fit
from sketchways.places import answer
from sketchways.walking import led

FIRST = (-1,)
BRIDGE = ("at", "bridge")
BAKER = ("along", 0)
STATION = ("along", 1)


def lines(*rows):
    return "\n".join(rows)


class AnswerCase(unittest.TestCase):
    def assert_answer(self, sketch, text, place, filling, question, told):
        with self.subTest(text=text, place=place, filling=filling, question=question):
            directions = Directions(text)
            self.assertEqual(told, answer(sketch, directions, place, filling, question))
            turned = mirrored_filling(sketch, place, filling)
            self.assertEqual(told, answer(~sketch, ~directions, place, turned, question))


class CrossingTest(AnswerCase):
    def test_example(self):
        self.assertEqual(("leaves",), answer(example_sketch(), example_directions(), BRIDGE, ((1, 0, 0), ()),
                                             ("a", (-1,))))
        self.assertEqual(("go", "b", (2,)), answer(question=("a", (-1,)), filling=((0, 0, 0), ()), place=BRIDGE,
                                                   directions=example_directions(), sketch=example_sketch()))

    def test_by_each_choice(self):
        for text, end, told in (
            ("go on", "a", ("leaves",)), ("go on", "b", ("lost",)), ("go back", "a", ("go", "a", (0,))),
            ("go back", "b", ("go", "b", (0,))), ("go left 1", "a", ("go", "b", (0,))), ("go left 2", "a", ("lost",)),
            ("go right 1", "a", ("lost",)), ("go left 1", "b", ("leaves",)), ("go left 2", "b", ("go", "a", (0,))),
            ("go left 3", "b", ("lost",)), ("go right 1", "b", ("go", "a", (0,))), ("go right 2", "b", ("leaves",)),
        ):
            self.assert_answer(example_sketch(), text, BRIDGE, ((0, 0, 0), ()), (end, FIRST), told)

    def test_how_the_walk_ends(self):
        self.assert_answer(example_sketch(), "here", BRIDGE, ((0, 0, 0), ()), ("a", FIRST), ("here",))
        self.assert_answer(example_sketch(), "go on", BRIDGE, ((0, 0, 0), ()), ("a", (0,)), ("lost",))
        self.assert_answer(example_sketch(), "while on\n  if right\n    go on", BRIDGE, ((0, 0, 0), ()), ("a", FIRST),
                           ("round",))

    def test_states(self):
        text = lines("again 2", "  go left 1", "  go back", "go on")
        for state, told in ((FIRST, ("go", "b", (1, 1))), ((1, 1), ("go", "a", (2, 1))), ((2, 1), ("go", "b", (1, 0))),
                            ((1, 0), ("go", "a", (2, 0))), ((2, 0), ("leaves",)), ((3,), ("lost",))):
            self.assert_answer(example_sketch(), text, BRIDGE, ((0, 0, 0), ()), ("a", state), told)

    def test_further_ends(self):
        for counts, end, text, told in (
            ((1, 0, 0), "a", "go left 1", ("leaves",)), ((1, 0, 0), "a", "go left 2", ("go", "b", (0,))),
            ((2, 0, 0), "a", "go left 2", ("leaves",)), ((2, 0, 0), "a", "go left 3", ("go", "b", (0,))),
            ((3, 0, 0), "a", "go left 3", ("leaves",)), ((0, 1, 0), "a", "go left 1", ("go", "b", (0,))),
            ((0, 1, 0), "a", "go left 2", ("leaves",)), ((0, 2, 0), "a", "go left 3", ("leaves",)),
            ((0, 0, 1), "a", "go right 1", ("leaves",)), ((0, 0, 4), "a", "go right 3", ("leaves",)),
            ((0, 0, 1), "a", "go on", ("leaves",)), ((4, 4, 4), "a", "go back", ("go", "a", (0,))),
            ((0, 1, 0), "b", "go left 1", ("leaves",)), ((0, 1, 0), "b", "go left 3", ("go", "a", (0,))),
            ((0, 0, 1), "b", "go left 3", ("go", "a", (0,))), ((0, 0, 1), "b", "go left 2", ("leaves",)),
            ((1, 0, 0), "b", "go right 1", ("leaves",)), ((1, 0, 0), "b", "go right 2", ("go", "a", (0,))),
            ((1, 0, 0), "b", "go right 3", ("leaves",)), ((2, 4, 4), "b", "go right 3", ("go", "a", (0,))),
            ((0, 0, 3), "b", "go on", ("lost",)), ((0, 0, 3), "b", "go right 1", ("go", "a", (0,))),
        ):
            self.assert_answer(example_sketch(), text, BRIDGE, (counts, ()), (end, FIRST), told)

    def test_conditions(self):
        for condition, counts, end, holds in (
            ("on", (0, 0, 0), "a", True), ("on", (4, 4, 4), "b", False), ("left", (0, 0, 0), "a", True),
            ("right", (0, 0, 0), "a", False), ("right", (0, 0, 1), "a", True), ("ends 2", (0, 0, 0), "a", True),
            ("ends 3", (0, 0, 0), "a", False), ("ends 3", (0, 0, 1), "a", True), ("ends 3", (0, 1, 0), "b", True),
            ("ends 4", (0, 1, 0), "b", False), ("ends 4", (1, 1, 0), "b", True), ("left", (0, 0, 0), "b", True),
        ):
            self.assert_answer(example_sketch(), f"if {condition}\n  here", BRIDGE, (counts, ()), (end, FIRST),
                               ("here",) if holds else ("lost",))

    def test_signs(self):
        for sign, signs, holds in (("bridge", (), True), ("bridge", ("inn",), True), ("inn", (), False),
                                   ("inn", ("inn",), True), ("inn", ("elm", "inn"), True),
                                   ("inn", ("elm", "oak"), False),
                                   ("a", tuple("abcdefgh"), True), ("h", tuple("abcdefgh"), True)):
            self.assert_answer(example_sketch(), f"if sign {sign}\n  here", BRIDGE, ((0, 0, 0), signs), ("a", FIRST),
                               ("here",) if holds else ("lost",))

    def test_a_crossing_with_one_told_end(self):
        baker = ("at", "baker")
        for counts, text, told in (((0,), "go back", ("go", "p", (0,))), ((0,), "go left 1", ("lost",)),
                                   ((1,), "go left 1", ("leaves",)), ((1,), "go left 2", ("lost",)),
                                   ((4,), "go right 3", ("leaves",)), ((4,), "go on", ("lost",)),
                                   ((4,), "if ends 4\n  here", ("here",)), ((3,), "if ends 4\n  here", ("lost",))):
            self.assert_answer(example_sketch(), text, baker, (counts, ()), ("p", FIRST), told)

    def test_a_street_between_ends_of_one_crossing(self):
        sketch = sketch_of([("a", ("p", "q", "r"), (("q", "r"),), ())], "a.p-a.r")
        for text, end, told in (("go left 1", "p", ("leaves",)), ("go left 2", "p", ("go", "r", (0,))),
                                ("go right 1", "p", ("go", "r", (0,))), ("go on", "r", ("leaves",)),
                                ("go left 1", "r", ("go", "p", (0,))), ("go right 1", "r", ("lost",))):
            self.assert_answer(sketch, text, ("at", "a"), ((0, 0, 0), ()), (end, FIRST), told)

    def test_two_straight_pairs(self):
        told = [("a", ("w", "x", "y", "z"), (("w", "y"), ("x", "z")), ())]
        sketch = sketch_of(told, "a.w-a.x a.y-a.z", [("shut", "a", "z")])
        for counts, text, end, reply in (((0, 0, 0, 0), "go on", "w", ("go", "y", (0,))),
                                         ((4, 4, 4, 0), "go on", "x", ("go", "z", (0,))),
                                         ((1, 0, 0, 0), "go left 2", "w", ("go", "x", (0,))),
                                         ((0, 1, 0, 0), "go left 2", "w", ("leaves",)),
                                         ((0, 0, 0, 0), "go right 1", "w", ("go", "z", (0,))),
                                         ((0, 0, 2, 0), "go right 1", "w", ("go", "z", (0,))),
                                         ((0, 0, 2, 0), "go right 2", "w", ("leaves",)),
                                         ((0, 0, 2, 0), "go right 3", "x", ("lost",))):
            self.assert_answer(sketch, text, ("at", "a"), (counts, ()), (end, FIRST), reply)


class StreetTest(AnswerCase):
    def test_no_step(self):
        for state in (FIRST, (1,), (2,)):
            for side in (0, 1):
                self.assert_answer(example_sketch(), example_directions().text, BAKER, (), (side, state),
                                   ("out", 1 - side, state))

    def test_one_step(self):
        for text, step, side, told in (
            ("go on", (0, 0, ()), 0, ("out", 1, (0,))), ("go on", (0, 0, ()), 1, ("out", 0, (0,))),
            ("go back", (0, 0, ()), 0, ("out", 0, (0,))), ("go back", (4, 4, ()), 1, ("out", 1, (0,))),
            ("go left 1", (0, 4, ()), 0, ("lost",)), ("go left 1", (1, 0, ()), 0, ("leaves",)),
            ("go left 2", (1, 4, ()), 0, ("lost",)), ("go left 3", (3, 0, ()), 0, ("leaves",)),
            ("go right 1", (4, 0, ()), 0, ("lost",)), ("go right 1", (0, 1, ()), 0, ("leaves",)),
            ("go left 1", (1, 0, ()), 1, ("lost",)), ("go left 1", (0, 1, ()), 1, ("leaves",)),
            ("go right 3", (3, 0, ()), 1, ("leaves",)), ("go right 3", (2, 4, ()), 1, ("lost",)),
            ("here", (0, 0, ()), 0, ("here",)), ("while on\n  if left\n    go on", (0, 1, ()), 0, ("round",)),
            ("while on\n  if left\n    go on", (0, 1, ()), 1, ("out", 0, (2,))),
            ("if sign inn\n  here", (0, 0, ("inn",)), 0, ("here",)),
            ("if sign inn\n  here", (0, 0, ("oak",)), 0, ("lost",)),
            ("if sign bridge\n  here", (0, 0, ("bridge",)), 1, ("here",)),
            ("if on\n  here", (0, 0, ()), 0, ("here",)), ("if ends 1\n  here", (0, 0, ()), 0, ("here",)),
            ("if ends 2\n  here", (0, 0, ()), 0, ("lost",)), ("if ends 4\n  here", (1, 2, ()), 0, ("here",)),
            ("if ends 4\n  here", (1, 1, ()), 0, ("lost",)), ("if left\n  here", (1, 0, ()), 0, ("here",)),
            ("if left\n  here", (1, 0, ()), 1, ("lost",)), ("if right\n  here", (1, 0, ()), 1, ("here",)),
        ):
            self.assert_answer(example_sketch(), text, STATION, (step,), (side, FIRST), told)

    def test_several_steps(self):
        steps = ((0, 0, ()), (1, 0, ()), (0, 0, ("inn",)))
        for text, side, told in (
            ("go on\ngo on\ngo on", 0, ("out", 1, (2,))), ("go on\ngo on", 0, ("lost",)),
            ("while on\n  go on", 0, ("out", 1, (1,))), ("while on\n  go on", 1, ("out", 0, (1,))),
            ("until left\n  go on\ngo left 1", 0, ("leaves",)), ("until left\n  go on\ngo back", 0, ("lost",)),
            ("until sign inn\n  go on\nhere", 0, ("here",)), ("until sign inn\n  go on\nhere", 1, ("here",)),
            ("go on\nif right\n  here", 1, ("here",)), ("go on\nif left\n  here", 1, ("lost",)),
            ("go on\nif left\n  here", 0, ("here",)), ("go on\ngo back\ngo on", 0, ("out", 0, (2,))),
            ("go on\ngo back\ngo back\ngo on\ngo on", 0, ("out", 1, (4,))),
            ("go on\ngo on\ngo back\ngo on\ngo on", 1, ("out", 1, (4,))),
        ):
            self.assert_answer(example_sketch(), text, STATION, steps, (side, FIRST), told)

    def test_to_and_fro_for_ever(self):
        steps = ((0, 0, ("inn",)), (0, 0, ()), (0, 0, ("inn",)))
        text = lines("while on", "  until sign inn", "    go on", "  go back")
        self.assert_answer(example_sketch(), text, STATION, steps, (0, (2,)), ("out", 0, (3,)))
        self.assert_answer(example_sketch(), text, STATION, steps, (0, (3,)), ("out", 0, (3,)))
        text = lines("go on", "while on", "  until sign inn", "    go on", "  go back")
        self.assert_answer(example_sketch(), text, STATION, steps, (0, FIRST), ("round",))
        self.assert_answer(example_sketch(), text, STATION, steps, (1, FIRST), ("round",))
        self.assert_answer(example_sketch(), text, STATION, steps[:2], (0, FIRST), ("out", 1, (3,)))

    def test_many_steps(self):
        self.assert_answer(example_sketch(), "while on\n  go on", STATION, ((0, 0, ()),) * 500, (0, FIRST),
                           ("out", 1, (1,)))
        self.assert_answer(example_sketch(), "until sign inn\n  go on\nhere", STATION,
                           ((0, 0, ()),) * 499 + ((0, 0, ("inn",)),), (0, FIRST), ("here",))

    def test_sides_are_those_of_the_street(self):
        sketch = sketch_of([("a", ("z",), (), ()), ("b", ("a",), (), ())], "b.a-a.z")
        self.assert_answer(sketch, "go on\nif left\n  here", ("along", 0), ((0, 0, ()), (1, 0, ())), (0, FIRST),
                           ("here",))
        self.assert_answer(sketch, "go on\nif left\n  here", ("along", 0), ((0, 0, ()), (1, 0, ())), (1, FIRST),
                           ("lost",))


class BadAnswerTest(unittest.TestCase):
    def answer(self, place, filling, question, facts=()):
        return answer(example_sketch(facts), example_directions(), place, filling, question)

    def assert_bad(self, error, value, *arguments):
        with self.subTest(error=error, value=value):
            self.assertIs(value, caught(self, error, self.answer, *arguments).value)

    def test_any_values(self):
        for value in any_values():
            self.assert_bad(BadPlace, value, value, ((0, 0, 0), ()), ("a", FIRST))
            self.assert_bad(BadFilling, value, BRIDGE, value, ("a", FIRST))
            self.assert_bad(BadQuestion, value, BRIDGE, ((0, 0, 0), ()), value)
            self.assert_bad(BadQuestion, value, BAKER, (), value)
            if value != ():
                self.assert_bad(BadFilling, value, BAKER, value, (0, FIRST))

    def test_any_values_within(self):
        for value in any_values():
            for place in (("at", value), ("along", value), (value, "bridge"), (value, 0)):
                if place not in (BRIDGE, BAKER, STATION) or isinstance(value, bool):
                    self.assert_bad(BadPlace, place, place, (), (0, FIRST))
            for filling in ((value, ()), ((0, 0, value), ()), ((0, 0, 0), value), ((0, 0, 0), (value,))):
                if type(value) is not int and value != () or filling[1] == (value,):
                    self.assert_bad(BadFilling, filling, BRIDGE, filling, ("a", FIRST))
            for filling in ((value,), ((value, 0, ()),), ((0, value, ()),), ((0, 0, (value,)),), ((0, 0, ()), value)):
                if type(value) is not int or len(filling) > 1 or filling == (value,):
                    self.assert_bad(BadFilling, filling, BAKER, filling, (0, FIRST))
            for question in ((value, FIRST), ("a", value), ("a", (value,))):
                if question not in (("a", (-1,)), ("a", (1,))) or isinstance(value, bool):
                    self.assert_bad(BadQuestion, question, BRIDGE, ((0, 0, 0), ()), question)
            for question in ((value, FIRST), (0, value), (0, (value,))):
                if question not in ((0, (-1,)), (1, (-1,)), (0, (1,))) or isinstance(value, bool):
                    self.assert_bad(BadQuestion, question, BAKER, (), question)

    def test_places(self):
        for place in (("at", "yard"), ("at", "c"), ("at", 0), ("at", True), ("along", 2), ("along", -1),
                      ("along", True),
                      ("along", False), ("along", "0"), ("along", "bridge"), ("on", "bridge"), ("at", "bridge", 0),
                      ("at",), ["at", "bridge"], "at", ("bridge", "at"), (0, "along")):
            self.assert_bad(BadPlace, place, place, ((0, 0, 0), ()), ("a", FIRST))

    def test_fillings_of_a_crossing(self):
        for filling in ((0, 0, 0), ((0, 0, 0),), ((0, 0), ()), ((0, 0, 0, 0), ()), ((5, 0, 0), ()), ((0, 0, 5), ()),
                        ((-1, 0, 0), ()), ((0, True, 0), ()), ((0, False, 0), ()), (("0", 0, 0), ()), ([0, 0, 0], ()),
                        [(0, 0, 0), ()], ((0, 0, 0), []), ((0, 0, 0), ["inn"]), ((0, 0, 0), "inn"),
                        ((0, 0, 0), ("inn", "inn")), ((0, 0, 0), ("oak", "inn")), ((0, 0, 0), ("Inn",)),
                        ((0, 0, 0), ("bridge",)), ((0, 0, 0), ("bridge", "inn")), ((0, 0, 0), (), ()),
                        ((0, 0, 0), tuple("abcdefghi")), (), None, ((), ())):
            self.assert_bad(BadFilling, filling, BRIDGE, filling, ("a", FIRST))
        self.assertEqual(("leaves",), self.answer(BRIDGE, ((4, 4, 4), tuple("abcdefgh")), ("a", FIRST)))

    def test_fillings_of_a_street(self):
        for filling in (((0, 0),), ((0, 0, (), ()),), ((5, 0, ()),), ((0, 5, ()),), ((-1, 0, ()),), ((0, -1, ()),),
                        ((True, 0, ()),), ((0, False, ()),), ((0, 0, []),), ((0, 0, "inn"),), ((0, 0, ("inn", "inn")),),
                        ((0, 0, ("oak", "inn")),), ((0, 0, ("Inn",)),), ([0, 0, ()],), [(0, 0, ())], (0, 0, ()),
                        ((0, 0, ()), (0, 0)), ((0, 0, tuple("abcdefghi")),), None, ((),), ((0, 0, ()),) * 501):
            self.assert_bad(BadFilling, filling, STATION, filling, (0, FIRST))
        self.assertEqual(("out", 1, (1,)), self.answer(STATION, ((4, 4, tuple("abcdefgh")),) * 500, (0, FIRST)))
        self.assertEqual(("leaves",), self.answer(STATION, ((4, 4, ("bridge",)),), (0, FIRST)))

    def test_facts(self):
        shut, full, only = ("shut", "bridge", "b"), ("full", "bridge"), ("only", "inn")
        plain = ((0, 0, 0), ())
        for facts, filling in (((shut,), ((0, 1, 0), ())), ((full,), ((0, 0, 0), ("oak",))),
                               ((only,), ((0, 0, 0), ("inn",))),
                               ((only,), ((0, 0, 0), ("elm", "inn", "oak"))),
                               ((("only", "bread"),), ((0, 0, 0), ("bread",)))):
            self.assert_bad(BadFilling, filling, BRIDGE, filling, ("a", FIRST), facts)
            self.assertEqual(("go", "b", (2,)), self.answer(BRIDGE, plain, ("a", FIRST), facts))
            self.answer(BRIDGE, filling, ("a", FIRST))
        self.answer(BRIDGE, ((4, 0, 4), ("elm",)), ("a", FIRST), (only, shut))
        self.answer(BRIDGE, ((4, 4, 4), ()), ("a", FIRST), (("full", "bridge"), only, ("shut", "baker", "p")))
        self.answer(("at", "baker"), ((4,), ("elm",)), ("p", FIRST), (full, shut))
        for facts, filling in (((("clear", "bridge", "a"),), ((0, 0, ()),)), ((only,), ((0, 0, ("inn",)),)),
                               ((only,), ((0, 0, ()), (0, 0, ("elm", "inn")))),
                               ((("only", "bridge"),), ((0, 0, ("bridge",)),))):
            self.assert_bad(BadFilling, filling, STATION, filling, (0, FIRST), facts)
            self.assertEqual(("out", 1, FIRST), self.answer(STATION, (), (0, FIRST), facts))
            self.answer(STATION, filling, (0, FIRST))
        self.answer(BAKER, ((0, 0, ("elm",)),), (0, FIRST), (("clear", "bridge", "a"), full, only, shut))

    def test_signs_with_names_of_crossings(self):
        facts = (("clear", "baker", "p"), ("full", "station"), ("shut", "baker", "p"))
        for sign in ("baker", "station"):
            self.assertEqual(("go", "b", (2,)), self.answer(BRIDGE, ((0, 0, 0), (sign,)), ("a", FIRST), facts))
            self.assertEqual(("out", 1, (1,)), self.answer(STATION, ((0, 0, (sign,)),), (0, FIRST), facts))

    def test_questions_to_a_crossing(self):
        # End c leads off: no walker comes by a told street from there.
        for question in (("c", FIRST), ("d", FIRST), (0, FIRST), ("a", (0,)), ("a", (3,)), ("a", -1), ("a", ()),
                         ("a", (1, 0)), ("a", (True,)), ("a",), ("a", FIRST, 0), ["a", FIRST], ("a", [-1]), "a",
                         (FIRST, "a")):
            self.assert_bad(BadQuestion, question, BRIDGE, ((0, 0, 0), ()), question)

    def test_questions_to_a_street(self):
        for question in ((2, FIRST), (-1, FIRST), (True, FIRST), (False, FIRST), ("0", FIRST), ("a", FIRST), (0, (0,)),
                         (0, (True,)), (0, -1), (0,), (0, FIRST, 0), [0, FIRST], ((0, FIRST),)):
            self.assert_bad(BadQuestion, question, BAKER, (), question)

    def test_order(self):
        self.assert_bad(BadPlace, 1, 1, 2, 3)
        self.assert_bad(BadFilling, 2, BRIDGE, 2, 3)
        self.assert_bad(BadQuestion, 3, BRIDGE, ((0, 0, 0), ()), 3)


class KeptTest(unittest.TestCase):
    """The answers, one behind the other, are the walk in a town with these fillings."""

    TEXTS = (
        example_directions().text,
        "while on\n  go on\ngo left 1\ngo right 1\nhere",
        lines("again 3", "  if sign inn", "    go back", "  else", "    go on", "  until on", "    go left 2", "here"),
        lines("until sign bread", "  if left", "    go left 1", "  else", "    if on", "      go on", "    else",
              "      go back", "here"),
        lines("while not sign bread", "  if on", "    go on", "  else", "    go right 1", "here"),
        lines("until ends 4", "  if sign bridge", "    go left 2", "  else", "    go on", "    go back", "go right 1",
              "here"),
        lines("go on", "while on", "  until sign inn", "    go on", "  go back"),
    )

    def chained(self, sketch, directions, fillings, start, goal):
        """How the walk ends by the answers of the places."""
        ends = {street[side]: (number, side) for number, street in enumerate(sketch.streets) for side in (0, 1)}
        number, side = ends[start]
        place, question = ("along", number), (side, FIRST)
        asked = {}
        while (place, question) not in asked:
            asked[place, question] = True
            told = answer(sketch, directions, place, fillings[place], question)
            if told[0] == "go":
                number, side = ends[place[1], told[1]]
                place, question = ("along", number), (side, told[2])
            elif told[0] == "out":
                name, end = sketch.streets[place[1]][told[1]]
                place, question = ("at", name), (end, told[2])
            elif told[0] == "here":
                return "comes" if place == ("at", goal) else "wrong"
            else:
                return told[0]
        return "round"

    def test_walks(self):
        plain = {("at", "baker"): ((0,), ()), BRIDGE: ((0, 0, 0), ()), ("at", "station"): ((0,), ()), BAKER: (),
                 STATION: ()}
        seen = set()
        for place, filling in (
            (BRIDGE, ((0, 0, 0), ())), (BRIDGE, ((1, 0, 0), ())), (BRIDGE, ((0, 2, 1), ("inn",))),
            (("at", "baker"), ((3,), ("inn",))), (BAKER, ((0, 0, ()),)),
            (BAKER, ((1, 0, ("bread",)), (0, 0, ("inn",)))),
            (STATION, ((0, 1, ("inn",)), (0, 0, ()), (2, 0, ("inn",)))), (STATION, ((1, 1, ("bridge",)),)),
            (("at", "station"), ((1,), ("bread", "bridge"))),
        ):
            fillings = {**plain, place: filling}
            sketch = example_sketch()
            town, found = filled_town(sketch, fillings)
            self.assertIs(True, shows_fit(sketch, town, found))
            for text in self.TEXTS:
                directions = Directions(text)
                for start in (("station", "s"), ("baker", "p"), ("bridge", "a"), ("bridge", "b")):
                    for goal in ("baker", "bridge"):
                        with self.subTest(text=text, filling=filling, start=start):
                            how = self.chained(sketch, directions, fillings, start, goal)
                            self.assertEqual(how, led(sketch, town, found, directions, start, goal))
                            seen.add(how)
        self.assertEqual({"comes", "wrong", "leaves", "lost", "round"}, seen)

    def test_nothing_is_changed(self):
        sketch, directions = example_sketch(FACTS), example_directions()
        answer(sketch, directions, BRIDGE, ((0, 0, 0), ()), ("a", FIRST))
        self.assertTrue(sketch == example_sketch(FACTS) and directions == example_directions())


if __name__ == "__main__":
    unittest.main()
