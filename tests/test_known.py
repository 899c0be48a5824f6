"""Promise 9: least fillings by what is known, and possible answers; promise 3, (c), (d) and (e)."""

import itertools
import unittest

from samples import FACTS, any_values, caught, example_directions, example_sketch, sketch_of
from sketchways.directions import Directions
from sketchways.errors import BadKnown, BadPlace, BadQuestion, TooMany
from sketchways.places import answer, filled, possible

FIRST = (-1,)
BRIDGE = ("at", "bridge")
BAKER = ("along", 0)
STATION = ("along", 1)

# Directions by which a street answers in so many ways, if no fact is told: counted by going through its fillings.
WAYS_400 = """\
while left
  go left 3
  go on
until not left
  go right 2
  go back
  go on
  until not sign oak
    go on"""
WAYS_401 = """\
until not left
  here
  again 2
    until right
      go on
      here
    go on
    go on
go on"""


def lines(*rows):
    return "\n".join(rows)


def cost_of(place, filling):
    if place[0] == "at":
        return sum(filling[0]) + len(filling[1])
    return sum(1 + left + right + len(signs) for left, right, signs in filling)


class KnownCase(unittest.TestCase):
    def assert_filled(self, sketch, text, place, known, cost, *fillings):
        """The least cost, and perhaps all fillings that have it and are of use."""
        with self.subTest(text=text, place=place, known=known):
            directions = Directions(text)
            found = filled(sketch, directions, place, known)
            if cost is None:
                self.assertIsNone(found)
            else:
                self.assertIsInstance(found, tuple)
                self.assertEqual(2, len(found))
                self.assertEqual((cost, cost), (found[0], cost_of(place, found[1])))
                for question, told in known:
                    self.assertEqual(told, answer(sketch, directions, place, found[1], question))
            if fillings:
                self.assertIn(found[1], fillings)
            turned = filled(~sketch, ~directions, place, known)
            self.assertEqual(cost, None if turned is None else turned[0])

    def assert_possible(self, sketch, text, place, known, question, answers):
        with self.subTest(text=text, place=place, known=known, question=question):
            directions = Directions(text)
            self.assertEqual(answers, possible(sketch, directions, place, known, question))
            self.assertEqual(answers, possible(~sketch, ~directions, place, known, question))


class FilledCrossingTest(KnownCase):
    def test_nothing_known(self):
        self.assert_filled(example_sketch(), "here", BRIDGE, (), 0, ((0, 0, 0), ()))
        self.assert_filled(example_sketch(), "go on", ("at", "baker"), (), 0, ((0,), ()))

    def test_further_ends(self):
        known = lambda end, told: (((end, FIRST), told),)
        leaves, lost = ("leaves",), ("lost",)
        for text, end, told, cost, fillings in (
            ("go left 1", "a", leaves, 1, [((1, 0, 0), ())]),
            ("go left 1", "a", ("go", "b", (0,)), 0, [((0, 0, 0), ())]),
            ("go left 2", "a", ("go", "b", (0,)), 1, [((1, 0, 0), ())]),
            ("go left 2", "a", leaves, 1, [((0, 1, 0), ())]), ("go left 2", "a", lost, 0, [((0, 0, 0), ())]),
            ("go left 3", "a", ("go", "b", (0,)), 2, [((2, 0, 0), ())]),
            ("go right 1", "a", leaves, 1, [((0, 0, 1), ())]),
            ("go right 3", "a", leaves, 3, [((0, 0, 3), ())]), ("go left 1", "a", lost, None, []),
            ("go right 1", "b", leaves, 1, [((1, 0, 0), ())]),
            ("go right 3", "b", ("go", "a", (0,)), 2, [((2, 0, 0), ())]),
            ("go on", "a", leaves, 0, [((0, 0, 0), ())]), ("go on", "a", lost, None, []),
                                                ("go on", "b", leaves, None, []),
            ("go back", "a", ("go", "a", (0,)), 0, [((0, 0, 0), ())]), ("go back", "a", ("go", "b", (0,)), None, []),
        ):
            self.assert_filled(example_sketch(), text, BRIDGE, known(end, told), cost, *fillings)

    def test_four_further_ends(self):
        baker = ("at", "baker")
        known = ((("p", FIRST), ("here",)),)
        for many in (1, 2, 3, 4):
            self.assert_filled(example_sketch(), f"if ends {many}\n  here", baker, known, many, ((many,), ()))
        self.assert_filled(example_sketch(), "if ends 4\n  here", BRIDGE, ((("a", FIRST), ("here",)),), 2)
        self.assert_filled(example_sketch(), "if ends 4\n  here", BRIDGE, ((("b", FIRST), ("here",)),), 2)

    def test_signs(self):
        here, lost = ("here",), ("lost",)
        known = lambda told: ((("a", FIRST), told),)
        self.assert_filled(example_sketch(), "if sign inn\n  here", BRIDGE, known(here), 1, ((0, 0, 0), ("inn",)))
        self.assert_filled(example_sketch(), "if sign inn\n  here", BRIDGE, known(lost), 0, ((0, 0, 0), ()))
        self.assert_filled(example_sketch(), "if sign bridge\n  here", BRIDGE, known(here), 0, ((0, 0, 0), ()))
        self.assert_filled(example_sketch(), "if sign bridge\n  here", BRIDGE, known(lost), None)
        text = lines("if sign oak", "  if sign inn", "    if not sign elm", "      here")
        self.assert_filled(example_sketch(), text, BRIDGE, known(here), 2, ((0, 0, 0), ("inn", "oak")))

    def test_signs_and_ends(self):
        text = lines("if sign inn", "  go left 2", "if sign oak", "  go right 1")
        self.assert_filled(example_sketch(), text, BRIDGE, ((("a", FIRST), ("leaves",)),), 2, ((0, 1, 0), ("inn",)),
                           ((0, 0, 1), ("oak",)))
        self.assert_filled(example_sketch(), text, BRIDGE, ((("a", FIRST), ("go", "b", (1,))),), 2,
                           ((1, 0, 0), ("inn",)))

    def test_facts(self):
        known = ((("a", FIRST), ("leaves",)),)
        shut = example_sketch((("shut", "bridge", "a"),))
        self.assert_filled(shut, "go left 1", BRIDGE, known, None)
        self.assert_filled(shut, "go left 2", BRIDGE, known, 1, ((0, 1, 0), ()))
        known = ((("a", FIRST), ("here",)),)
        self.assert_filled(example_sketch((("full", "bridge"),)), "if sign inn\n  here", BRIDGE, known, None)
        self.assert_filled(example_sketch((("only", "inn"),)), "if sign inn\n  here", BRIDGE, known, None)
        self.assert_filled(example_sketch((("only", "bread"),)), "if sign bread\n  here", BRIDGE, known, None)
        self.assert_filled(example_sketch((("full", "baker"), ("only", "oak"))), "if sign inn\n  here", BRIDGE, known,
                           1)
        self.assert_filled(example_sketch((("full", "bridge"), ("only", "bridge"))), "if sign bridge\n  here", BRIDGE,
                           known, 0)

    def test_several_questions(self):
        text = lines("go left 1", "go right 1", "go on", "here")
        known = ((("a", FIRST), ("leaves",)), (("a", (0,)), ("lost",)), (("b", FIRST), ("leaves",)))
        self.assert_filled(example_sketch(), text, BRIDGE, known, 1, ((1, 0, 0), ()))
        known = ((("a", FIRST), ("leaves",)), (("a", (0,)), ("leaves",)), (("b", (0,)), ("leaves",)))
        self.assert_filled(example_sketch(), text, BRIDGE, known, 2, ((1, 0, 1), ()))
        known = ((("a", FIRST), ("leaves",)), (("b", (0,)), ("go", "a", (1,))))
        self.assert_filled(example_sketch(), text, BRIDGE, known, None)

    def test_more_than_four_hundred_ways(self):
        text = lines("if sign a", "  go left 1", "if sign b", "  go left 2", "if sign c", "  go right 1", "if sign d",
                     "  go right 2", "go left 3", "go right 3", "go on")
        known = ((("a", FIRST), ("leaves",)), (("b", (1,)), ("go", "a", (3,))))
        self.assert_filled(example_sketch(), text, BRIDGE, known, 3, ((2, 0, 0), ("b",)), ((1, 0, 0), ("a", "b")))
        self.assertEqual(400, caught(self, TooMany, filled, example_sketch(), Directions(text), BAKER, ()).value)


class FilledStreetTest(KnownCase):
    def test_example(self):
        self.assertEqual((2, ((0, 0, ("bridge",)),)),
                         filled(example_sketch(), example_directions(), ("along", 1), (((1, (-1,)), ("lost",)),)))
        self.assertEqual((2, ((0, 0, ("bridge",)),)),
                         filled(known=(((1, (-1,)), ("lost",)),), place=("along", 1), directions=example_directions(),
                                sketch=example_sketch()))

    def test_nothing_known(self):
        self.assert_filled(example_sketch(), example_directions().text, BAKER, (), 0, ())

    def test_one_step(self):
        for text, side, told, cost, filling in (
            ("go on", 0, ("out", 1, FIRST), 0, ()), ("go on", 0, ("out", 1, (0,)), 1, ((0, 0, ()),)),
            ("go back", 0, ("out", 0, (0,)), 1, ((0, 0, ()),)), ("go back", 1, ("out", 1, (0,)), 1, ((0, 0, ()),)),
            ("go left 1", 0, ("leaves",), 2, ((1, 0, ()),)), ("go left 1", 1, ("leaves",), 2, ((0, 1, ()),)),
            ("go right 3", 0, ("leaves",), 4, ((0, 3, ()),)), ("go right 3", 1, ("leaves",), 4, ((3, 0, ()),)),
            ("go left 1", 0, ("lost",), 1, ((0, 0, ()),)), ("here", 1, ("here",), 1, ((0, 0, ()),)),
            ("if sign inn\n  here", 0, ("here",), 2, ((0, 0, ("inn",)),)),
            ("if sign bridge\n  here", 0, ("here",), 2, ((0, 0, ("bridge",)),)),
            ("while on\n  if left\n    go on", 0, ("round",), 1, ((0, 0, ()),)),
        ):
            self.assert_filled(example_sketch(), text, STATION, (((side, FIRST), told),), cost, filling)

    def test_ends(self):
        here = (((0, FIRST), ("here",)),)
        for many in (1, 2, 3, 4):
            self.assert_filled(example_sketch(), f"if ends {many}\n  here", STATION, here, many)

    def test_several_steps(self):
        self.assert_filled(example_sketch(), "again 3\n  again 3\n    go on\nhere", STATION,
                           (((0, FIRST), ("here",)),), 10,
                           ((0, 0, ()),) * 10)
        self.assert_filled(example_sketch(), "go on\nif sign inn\n  here", STATION, (((0, FIRST), ("here",)),), 3,
                           ((0, 0, ()), (0, 0, ("inn",))))
        self.assert_filled(example_sketch(), "go on\nif sign inn\n  here", STATION, (((1, FIRST), ("here",)),), 3,
                           ((0, 0, ("inn",)), (0, 0, ())))
        text = lines("go on", "while on", "  until sign inn", "    go on", "  go back")
        self.assert_filled(example_sketch(), text, STATION, (((0, FIRST), ("round",)),), 4, ((0, 0, ("inn",)),) * 2)

    def test_cheaper_with_more_steps(self):
        text = lines("if left", "  if right", "    here", "go on", "go on", "here")
        self.assert_filled(example_sketch(), text, STATION, (((0, FIRST), ("here",)),), 3, ((1, 1, ()), ),
                           ((0, 0, ()),) * 3)
        text = lines("if left", "  if right", "    if ends 4", "      here", "go on", "go on", "here")
        self.assert_filled(example_sketch(), text, STATION, (((0, FIRST), ("here",)),), 3, ((0, 0, ()),) * 3)

    def test_two_short_steps_are_cheaper_than_a_large_one(self):
        # By all questions two plain steps answer as one step with three further ends does.
        lost = (((0, FIRST), ("lost",)), ((0, (1,)), ("lost",)), ((1, FIRST), ("lost",)), ((1, (1,)), ("lost",)))
        self.assert_filled(example_sketch(), "if not ends 4\n  go on", STATION, lost, 2, ((0, 0, ()),) * 2)

    def test_round_at_a_later_step(self):
        text = lines("go on", "while on", "  if left", "    go on", "go back")
        for side in (0, 1):
            known = (((side, FIRST), ("round",)),)
            self.assert_filled(example_sketch(), text, STATION, known, 2, ((0, 0, ()),) * 2)
            self.assert_possible(example_sketch(), text, STATION, known, (1 - side, (0,)),
                                 (("out", side, (3,)), ("round",)))

    def test_several_questions(self):
        text = "if sign inn\n  here\nif left\n  go back\ngo on"
        known = (((0, FIRST), ("out", 0, (3,))), ((1, FIRST), ("out", 0, (4,))))
        self.assert_filled(example_sketch(), text, STATION, known, 2, ((1, 0, ()),))
        known = (((0, FIRST), ("out", 0, (3,))), ((1, FIRST), ("out", 1, (3,))))
        self.assert_filled(example_sketch(), text, STATION, known, 3, ((1, 1, ()),))
        known = (((0, FIRST), ("out", 0, (3,))), ((1, FIRST), ("here",)))
        self.assert_filled(example_sketch(), text, STATION, known, 4, ((1, 0, ()), (0, 0, ("inn",))))
        known = (((0, FIRST), ("out", 1, FIRST)), ((1, FIRST), ("here",)))
        self.assert_filled(example_sketch(), text, STATION, known, None)

    def test_no_filling(self):
        for told in (("here",), ("round",), ("out", 1, (2,)), ("out", 0, (2,))):
            self.assert_filled(example_sketch(), example_directions().text, STATION, (((0, (1,)), told),), None)
        self.assert_filled(example_sketch(), "go on", STATION, (((0, FIRST), ("out", 0, FIRST)),), None)

    def test_facts(self):
        clear = example_sketch((("clear", "bridge", "a"),))
        self.assert_filled(clear, "go on", STATION, (((0, FIRST), ("out", 1, FIRST)),), 0, ())
        self.assert_filled(clear, "go on", STATION, (((0, FIRST), ("out", 1, (0,))),), None)
        self.assert_filled(clear, "go on", BAKER, (((0, FIRST), ("out", 1, (0,))),), 1, ((0, 0, ()),))
        self.assert_filled(clear, WAYS_401, STATION, (), 0, ())
        here = (((0, FIRST), ("here",)),)
        for sign, facts in (("inn", (("only", "inn"),)), ("bridge", (("only", "bridge"),))):
            self.assert_filled(example_sketch(facts), f"if sign {sign}\n  here", STATION, here, None)
            self.assert_filled(example_sketch(), f"if sign {sign}\n  here", STATION, here, 2)
        self.assert_filled(example_sketch((("full", "baker"), ("full", "bridge"), ("only", "oak"))),
                           "if sign inn\n  here",
                           BAKER, here, 2)


class PossibleTest(KnownCase):
    def test_example(self):
        self.assertEqual((("leaves",), ("lost",), ("out", 0, (-1,)), ("out", 0, (1,))),
                         possible(example_sketch(), example_directions(), ("along", 1), (), (1, (-1,))))
        self.assertEqual((("leaves",), ("lost",), ("out", 0, (-1,)), ("out", 0, (1,))),
                         possible(question=(1, (-1,)), known=(), place=("along", 1), directions=example_directions(),
                                  sketch=example_sketch()))

    def test_crossings(self):
        go_b, leaves, lost = ("go", "b", (0,)), ("leaves",), ("lost",)
        for text, end, answers in (
            ("go left 1", "a", (go_b, leaves)), ("go left 2", "a", (go_b, leaves, lost)), ("go on", "a", (leaves,)),
            ("go on", "b", (lost,)), ("go right 1", "a", (leaves, lost)), ("go back", "b", (go_b,)),
                                   ("here", "a", (("here",),)),
            ("while left\n  if right\n    here", "a", (("here",), ("round",))),
            ("if left\n  go left 2\nelse\n  here", "b", (("go", "a", (1,)), leaves)),
        ):
            self.assert_possible(example_sketch(), text, BRIDGE, (), (end, FIRST), answers)

    def test_ascending(self):
        text = lines("if sign inn", "  go left 1", "if sign oak", "  go back", "if sign elm", "  go left 2", "here")
        self.assert_possible(example_sketch(), text, BRIDGE, (), ("a", FIRST),
                             (("go", "a", (3,)), ("go", "b", (1,)), ("go", "b", (5,)), ("here",), ("leaves",),
                              ("lost",)))
        text = lines("until sign inn", "  if sign oak", "    go back", "  go on", "if left", "  go left 1", "here")
        self.assert_possible(example_sketch(), text, STATION, (), (0, FIRST),
                             (("here",), ("leaves",), ("out", 0, (2,)), ("out", 0, (3,)), ("out", 1, (-1,)),
                              ("out", 1, (3,))))

    def test_streets(self):
        for text, side, answers in (
            ("go on", 0, (("lost",), ("out", 1, (-1,)), ("out", 1, (0,)))),
            ("while on\n  go on", 1, (("out", 0, (-1,)), ("out", 0, (1,)))),
            ("go back", 0, (("out", 0, (0,)), ("out", 1, (-1,)))),
            ("here", 1, (("here",), ("out", 0, (-1,)))),
            ("until left\n  go on\nhere", 0, (("here",), ("out", 1, (-1,)), ("out", 1, (1,)))),
            ("while on\n  if left\n    go on", 0, (("out", 1, (-1,)), ("out", 1, (2,)), ("round",))),
        ):
            self.assert_possible(example_sketch(), text, STATION, (), (side, FIRST), answers)

    def test_what_is_known_decides(self):
        text = lines("go left 1", "go left 2", "here")
        question = ("a", (0,))
        all_answers = (("go", "b", (1,)), ("leaves",), ("lost",))
        self.assert_possible(example_sketch(), text, BRIDGE, (), question, all_answers)
        self.assert_possible(example_sketch(), text, BRIDGE, ((("a", FIRST), ("leaves",)),), question, all_answers[:2])
        self.assert_possible(example_sketch(), text, BRIDGE, ((("a", FIRST), ("go", "b", (0,))),), question,
                             all_answers[1:])
        self.assert_possible(example_sketch(), text, BRIDGE, ((("a", (1,)), ("here",)),), question, all_answers)
        self.assert_possible(example_sketch(), text, BRIDGE, ((("a", FIRST), ("here",)),), question, ())

    def test_a_known_question_has_its_answer_alone(self):
        for told in (("leaves",), ("lost",), ("out", 0, (-1,)), ("out", 0, (1,))):
            self.assert_possible(example_sketch(), example_directions().text, STATION, (((1, FIRST), told),),
                                 (1, FIRST),
                                 (told,))
        self.assert_possible(example_sketch(), example_directions().text, STATION, (((1, FIRST), ("here",)),),
                             (1, FIRST), ())

    def test_kept_on_a_street(self):
        text = example_directions().text
        self.assert_possible(example_sketch(), text, STATION, (((1, FIRST), ("out", 0, (-1,))),), (0, FIRST),
                             (("out", 1, (-1,)),))
        self.assert_possible(example_sketch(), text, STATION, (((1, FIRST), ("lost",)),), (0, FIRST),
                             (("leaves",), ("lost",)))

    def test_facts(self):
        text = example_directions().text
        self.assert_possible(example_sketch((("clear", "bridge", "a"),)), text, STATION, (), (1, FIRST),
                             (("out", 0, (-1,)),))
        self.assert_possible(example_sketch((("only", "bridge"),)), text, STATION, (), (1, FIRST),
                             (("out", 0, (-1,)), ("out", 0, (1,))))
        self.assert_possible(example_sketch((("shut", "bridge", "a"),)), text, BRIDGE, (), ("a", FIRST),
                             (("go", "b", (2,)),))
        self.assert_possible(example_sketch(), text, BRIDGE, (), ("a", FIRST), (("go", "b", (2,)), ("leaves",)))

    def test_signs_with_names_of_crossings(self):
        sketch = example_sketch((("clear", "baker", "p"), ("full", "station"), ("shut", "baker", "p")))
        for sign in ("baker", "station"):
            text = f"if sign {sign}\n  here"
            self.assert_possible(sketch, text, BRIDGE, (), ("a", FIRST), (("here",), ("lost",)))
            self.assert_possible(sketch, text, STATION, (), (0, FIRST), (("here",), ("lost",), ("out", 1, FIRST)))

    def test_all_fillings_of_a_crossing(self):
        crossings = [("a", ("p", "q", "r"), (("p", "r"),), ("inn",)), ("b", ("s",), (), ())]
        sketch = sketch_of(crossings, "a.p-b.s a.q-a.r", [("shut", "a", "q")])
        text = lines("if sign oak", "  go left 2", "else", "  if right", "    go right 3", "while ends 4",
                     "  go left 3",
                     "go on")
        directions, place = Directions(text), ("at", "a")
        fillings = [((one, 0, other), signs) for one in range(5) for other in range(5) for signs in ((), ("oak",))]
        questions = [(end, state) for end in ("p", "q", "r") for state in directions.states]
        told = {(question, filling): answer(sketch, directions, place, filling, question)
                for question in questions for filling in fillings}
        for question in questions:
            answers = {told[question, filling] for filling in fillings}
            self.assertEqual(tuple(sorted(answers)), possible(sketch, directions, place, (), question))
        for one, other in zip(questions, questions[4:] + questions[:4]):
            for reply in {told[one, filling] for filling in fillings}:
                agreed = [filling for filling in fillings if told[one, filling] == reply]
                answers = {told[other, filling] for filling in agreed}
                self.assertEqual(tuple(sorted(answers)), possible(sketch, directions, place, ((one, reply),), other))
                found = filled(sketch, directions, place, ((one, reply),))
                self.assertEqual(min(cost_of(place, filling) for filling in agreed), found[0])
                self.assertIn(found[1], agreed)

    def test_fillings_of_a_street(self):
        # Each of these fillings gives possible answers, and at no lower cost than the least one that gives them.
        steps = [(0, 0, ()), (1, 0, ()), (0, 1, ("inn",)), (2, 1, ()), (0, 0, ("inn",))]
        fillings = [()] + [(step,) for step in steps] + list(itertools.product(steps, steps))
        for text in (lines("until sign inn", "  if left", "    go back", "  go on", "go left 2"),
                     lines("again 2", "  while right", "    go on", "  go back"),
                     lines("while on", "  until sign inn", "    go on", "  go back")):
            directions = Directions(text)
            questions = [(side, state) for side in (0, 1) for state in directions.states]
            least = {}
            for filling in fillings:
                known = tuple((question, answer(example_sketch(), directions, BAKER, filling, question))
                              for question in questions)
                least[known] = min(least.get(known, 99), cost_of(BAKER, filling))
            for known, cost in least.items():
                found = filled(example_sketch(), directions, BAKER, known)
                self.assertLessEqual(found[0], cost)
                self.assertEqual(found[0], cost_of(BAKER, found[1]))
                for question, told in known:
                    self.assertEqual(told, answer(example_sketch(), directions, BAKER, found[1], question))
                question, told = known[-1]
                self.assertIn(told, possible(example_sketch(), directions, BAKER, known[:2], question))

    def test_less_is_possible_by_more_facts(self):
        texts = (example_directions().text, "if sign inn\n  go left 2\nuntil ends 3\n  go on\ngo right 1\nhere")
        for text, fact in itertools.product(texts, example_sketch().tellable() + (("only", "inn"),)):
            directions = Directions(text)
            for place, question in ((BRIDGE, ("a", FIRST)), (BRIDGE, ("b", FIRST)), (BAKER, (0, FIRST)),
                                    (STATION, (1, (1,))), (("at", "baker"), ("p", FIRST))):
                all_answers = possible(example_sketch(), directions, place, (), question)
                answers = possible(example_sketch((fact,)), directions, place, (), question)
                self.assertTrue(answers)
                self.assertLessEqual(set(answers), set(all_answers))

    def test_nothing_is_changed(self):
        sketch, directions = example_sketch(FACTS), example_directions()
        first = possible(sketch, directions, STATION, (), (1, FIRST))
        filled(sketch, directions, STATION, ())
        self.assertEqual(first, possible(sketch, directions, STATION, (), (1, FIRST)))
        self.assertTrue(sketch == example_sketch(FACTS) and directions == example_directions())


class TooManyTest(unittest.TestCase):
    def test_four_hundred_ways(self):
        directions = Directions(WAYS_400)
        self.assertEqual((0, ()), filled(example_sketch(), directions, STATION, ()))
        self.assertIn(("out", 1, FIRST), possible(example_sketch(), directions, STATION, (), (0, FIRST)))

    def test_four_hundred_and_one_ways(self):
        directions = Directions(WAYS_401)
        for known in ((), (((0, FIRST), ("out", 1, FIRST)),), (((0, FIRST), ("round",)),)):
            self.assertEqual(400, caught(self, TooMany, filled, example_sketch(), directions, STATION, known).value)
            self.assertEqual(400, caught(self, TooMany, possible, example_sketch(), directions, STATION, known,
                                         (0, FIRST)).value)

    def test_no_ways_too_many_elsewhere(self):
        directions = Directions(WAYS_401)
        self.assertEqual((0, ((0, 0, 0), ())), filled(example_sketch(), directions, BRIDGE, ()))
        clear = example_sketch((("clear", "bridge", "a"),))
        self.assertEqual((("out", 1, FIRST),), possible(clear, directions, STATION, (), (0, FIRST)))
        self.assertEqual(400, caught(self, TooMany, filled, clear, directions, BAKER, ()).value)

    def test_signs_that_stand_nowhere_make_fewer_ways(self):
        directions = Directions(lines("while not sign left", "  go on", "  if sign left", "    go on", "  else",
                                      "    go on", "go on", "go right 2", "go on"))
        self.assertEqual(400, caught(self, TooMany, filled, example_sketch(), directions, STATION, ()).value)
        self.assertEqual((0, ()), filled(example_sketch((("only", "left"),)), directions, STATION, ()))

    def test_behind_the_other_errors(self):
        directions = Directions(WAYS_401)
        caught(self, BadPlace, filled, example_sketch(), directions, ("along", 2), ())
        caught(self, BadKnown, filled, example_sketch(), directions, STATION, 1)
        caught(self, BadKnown, possible, example_sketch(), directions, STATION, 1, 2)
        caught(self, BadQuestion, possible, example_sketch(), directions, STATION, (), 2)


class BadKnownTest(unittest.TestCase):
    def filled(self, place, known):
        return filled(example_sketch(), example_directions(), place, known)

    def possible(self, place, known, question):
        return possible(example_sketch(), example_directions(), place, known, question)

    def assert_bad_known(self, place, known):
        with self.subTest(place=place, known=known):
            self.assertIs(known, caught(self, BadKnown, self.filled, place, known).value)
            self.assertIs(known, caught(self, BadKnown, self.possible, place, known, None).value)

    def test_any_values(self):
        for value in any_values():
            self.assertIs(value, caught(self, BadPlace, self.filled, value, ()).value)
            self.assertIs(value, caught(self, BadPlace, self.possible, value, (), ("a", FIRST)).value)
            self.assertIs(value, caught(self, BadQuestion, self.possible, BRIDGE, (), value).value)
            self.assertIs(value, caught(self, BadQuestion, self.possible, BAKER, (), value).value)
            for place, question, told in ((BRIDGE, ("a", FIRST), ("here",)), (BAKER, (0, FIRST), ("here",))):
                if value != ():
                    self.assert_bad_known(place, value)
                for known in ((value,), ((question, value),), ((value, told),), ((question, told), value)):
                    self.assert_bad_known(place, known)

    def test_forms(self):
        row = (("a", FIRST), ("leaves",))
        for known in ([row], row, ((("a", FIRST), ("leaves",), 0),), ((("a", FIRST),),), ([("a", FIRST), ("leaves",)],),
                      ((["a", FIRST], ("leaves",)),), ((("a", FIRST), ["leaves"]),), {row[0]: row[1]}):
            self.assert_bad_known(BRIDGE, known)

    def test_questions(self):
        for question in (("c", FIRST), ("p", FIRST), (0, FIRST), ("a", (0,)), ("a", (3,)), ("a", (True,)), ("a", [-1])):
            self.assert_bad_known(BRIDGE, ((question, ("here",)),))
        for question in (("a", FIRST), (2, FIRST), (-1, FIRST), (True, FIRST), (False, FIRST), (0, (0,)), (0, (True,))):
            self.assert_bad_known(BAKER, ((question, ("here",)),))

    def test_answers(self):
        for told in (("go",), ("go", "a"), ("go", "c", FIRST), ("go", "p", FIRST), ("go", "a", (0,)),
                     ("go", "a", (True,)),
                     ("go", 0, FIRST), ("go", "a", FIRST, 0), ("out", 0, FIRST), ("out", "a", FIRST), ("on",),
                     ("wrong",),
                     ("comes",), "here", ("here", 0), ["here"], ("here", FIRST), ("end", "here"), None, ()):
            self.assert_bad_known(BRIDGE, ((("a", FIRST), told),))
        for told in (("out",), ("out", 0), ("out", 2, FIRST), ("out", -1, FIRST), ("out", True, FIRST),
                     ("out", False, FIRST),
                     ("out", 0, (0,)), ("out", 0, (True,)), ("out", "p", FIRST), ("out", 0, FIRST, 0), ("go", 0, FIRST),
                     ("go", "p", FIRST), ("here", 0), "here", ["here"], None, ()):
            self.assert_bad_known(BAKER, (((0, FIRST), told),))

    def test_all_forms_of_answers(self):
        for told in (("here",), ("lost",), ("round",), ("leaves",)):
            self.filled(BRIDGE, ((("a", FIRST), told),))
            self.filled(BAKER, (((1, FIRST), told),))
        for end, state in itertools.product(("a", "b"), example_directions().states):
            self.filled(BRIDGE, ((("b", (2,)), ("go", end, state)),))
        for side, state in itertools.product((0, 1), example_directions().states):
            self.filled(BAKER, (((0, (2,)), ("out", side, state)),))

    def test_ascending_and_different(self):
        one, other = (("a", FIRST), ("leaves",)), (("b", FIRST), ("leaves",))
        self.assert_bad_known(BRIDGE, (other, one))
        self.assert_bad_known(BRIDGE, (one, one))
        self.assert_bad_known(BRIDGE, ((("a", FIRST), ("go", "b", (2,))), one))
        self.assert_bad_known(BRIDGE, ((("a", (2,)), ("lost",)), (("a", (1,)), ("lost",))))
        self.assert_bad_known(BAKER, (((1, FIRST), ("lost",)), ((0, (1,)), ("lost",))))
        self.assertEqual((("leaves",),), self.possible(BRIDGE, (one, other), ("a", FIRST)))

    def test_order(self):
        self.assertEqual(1, caught(self, BadPlace, self.filled, 1, 2).value)
        self.assertEqual(1, caught(self, BadPlace, self.possible, 1, 2, 3).value)
        self.assertEqual(2, caught(self, BadKnown, self.filled, BRIDGE, 2).value)
        self.assertEqual(2, caught(self, BadKnown, self.possible, BRIDGE, 2, 3).value)
        self.assertEqual(3, caught(self, BadQuestion, self.possible, BRIDGE, (), 3).value)


if __name__ == "__main__":
    unittest.main()
