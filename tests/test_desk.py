"""Promise 16: a desk."""

import unittest

from samples import any_values, caught, example_directions, example_town, star, town_of
from sketchways.desk import Desk
from sketchways.directions import Directions
from sketchways.errors import (BadGoal, BadLine, BadNames, BadStart, BadWish, Finished, NoWay, NothingToRedo,
                               NothingToUndo,
                               TooMany, Undrawn)
from sketchways.judging import verdict
from sketchways.tours import Tour
from test_too_many import WAYS_401
from test_tours import GRID, RING, START, ways_on


def desk_of(text=None, town=None, start=START):
    directions = example_directions() if text is None else Directions(text)
    return Desk(Tour(example_town() if town is None else town, directions, start))


class DeskCase(unittest.TestCase):
    def assert_said(self, desk, *rows):
        for line, told in rows:
            self.assertEqual((line, told), (line, desk.say(line)))

    def assert_fails(self, desk, line, error, value):
        before = ways_on(desk.tour)
        self.assertEqual(value, caught(self, error, desk.say, line).value)
        self.assertEqual(before, ways_on(desk.tour))


class OrdersTest(DeskCase):
    def test_example(self):
        desk = desk_of()
        self.assert_said(desk, ("where", "-"), ("step", "bridge 0"), ("view", "1 0 yes bridge"), ("step", "baker 0"),
                         ("step", "here"),
                         ("undo", "ok"))
        self.assertEqual((2, None), (desk.tour.orders, desk.tour.finish))

    def test_the_very_tour(self):
        tour = Tour(example_town(), example_directions(), START)
        desk = Desk(tour=tour)
        self.assertIs(tour, desk.tour)
        tour.step()
        self.assertEqual("bridge 0", desk.say(line="where"))
        desk.say("step")
        self.assertEqual(2, tour.orders)

    def test_go(self):
        desk = desk_of()
        self.assert_said(desk, ("step", "bridge 0"), ("go on", "yard 0"), ("go back", "bridge 2"),
                         ("go right 1", "baker 0"),
                         ("go back", "bridge 1"), ("go left 2", "station 0"), ("go back", "bridge 0"),
                         ("go left 1", "baker 0"),
                         ("orders", "8"))
        desk = Desk(Tour(star(8), Directions("here"), ("za", 0)))
        self.assert_said(desk, ("step", "mid 0"), ("go right 3", "zf 0"), ("go back", "mid 5"), ("go left 3", "za 0"))

    def test_finishes(self):
        for text, finish in (("here", "here"), ("go right 1", "lost"), ("while on\n  if right\n    here", "round")):
            desk = desk_of(text)
            self.assert_said(desk, ("finish", "-"), ("step", "bridge 0"), ("finish", "-"), ("step", finish),
                             ("finish", finish),
                             ("where", "bridge 0"), ("view", "1 0 yes bridge"), ("orders", "2"), ("undo", "ok"),
                             ("finish", "-"),
                             ("redo", "ok"), ("finish", finish))
            self.assert_fails(desk, "step", Finished, finish)
            self.assert_fails(desk, "go back", Finished, finish)

    def test_undo_and_redo(self):
        desk = desk_of()
        self.assert_fails(desk, "undo", NothingToUndo, None)
        self.assert_fails(desk, "redo", NothingToRedo, None)
        self.assert_said(desk, ("orders", "0"), ("step", "bridge 0"), ("orders", "1"), ("undo", "ok"), ("orders", "0"),
                         ("where", "-"),
                         ("redo", "ok"), ("where", "bridge 0"))
        self.assert_fails(desk, "redo", NothingToRedo, None)

    def test_no_way(self):
        desk = desk_of()
        self.assert_fails(desk, "go on", NoWay, ("on",))
        desk.say("step")
        self.assert_fails(desk, "go right 1", NoWay, ("right", 1))
        self.assert_fails(desk, "go left 2", NoWay, ("left", 2))


class ViewTest(DeskCase):
    def test_views(self):
        self.assert_said(desk_of(), ("view", "-"), ("step", "bridge 0"), ("view", "1 0 yes bridge"),
                         ("go on", "yard 0"),
                         ("view", "0 0 no -"))
        town = star(4, ((0, 3),), ("church", "inn"))
        desk = Desk(Tour(town, Directions("here"), ("za", 0)))
        self.assert_said(desk, ("step", "mid 0"), ("view", "2 0 yes church,inn"), ("go left 1", "zb 0"),
                         ("go back", "mid 1"),
                         ("view", "3 3 no church,inn"))
        desk = Desk(Tour(star(20, (), ("a", "b", "c")), Directions("here"), ("za", 0)))
        self.assert_said(desk, ("step", "mid 0"), ("view", "19 19 no a,b,c"))


class KeptTest(DeskCase):
    def test_kept(self):
        desk = desk_of()
        self.assert_fails(desk, "kept comes baker", Undrawn, ("station",))
        desk.say("step")
        self.assert_fails(desk, "kept comes baker", BadGoal, "baker")
        # The street to the bridge may have further crossings, the bridge further ends.
        self.assert_said(desk, ("kept comes bridge", "broken"), ("kept true bridge", "kept"),
                         ("kept stays bridge", "broken"))
        desk.say("step")
        # As the walker came from the bridge, the start is there now.
        for wish in ("comes", "true", "stays"):
            for goal in ("baker", "bridge", "station"):
                found = verdict(desk.tour.sketch(), example_directions(), ("bridge", "eb"), goal, wish)[0]
                self.assert_said(desk, (f"kept {wish} {goal}", found))
        before = ways_on(desk.tour)
        desk.say("kept comes baker")
        self.assertEqual(before, ways_on(desk.tour))

    def test_both_answers(self):
        town = town_of([("a", 1, (), ()), ("b", 1, (), ("inn",))], "a0-b0")
        desk = Desk(Tour(town, Directions("if sign inn\n  here"), ("a", 0)))
        desk.say("step")
        self.assert_said(desk, ("kept comes b", "kept"), ("kept comes a", "broken"), ("kept stays a", "kept"),
                         ("kept true a", "broken"))
        desk.say("step")
        self.assert_said(desk, ("finish", "here"), ("kept comes b", "kept"))
        desk.tour.reword(Directions("if sign inn\n  go back\nhere"))
        self.assert_said(desk, ("kept comes b", "broken"), ("kept comes a", "kept"))
        # The walker comes from b then.
        desk.say("step")
        self.assert_said(desk, ("where", "a 0"), ("kept comes a", "kept"), ("kept comes b", "broken"))
        desk.tour.reword(Directions("here"))
        self.assert_said(desk, ("kept comes a", "kept"))
        desk.say("undo")
        desk.say("undo")
        self.assert_said(desk, ("where", "b 0"), ("kept comes b", "broken"))

    def test_ahead_of_the_first_step(self):
        desk = Desk(Tour(RING, Directions("go on\nhere"), ("a", 0)))
        found = verdict(desk.tour.sketch(), Directions("go on\nhere"), ("a", "ea"), "a", "comes")[0]
        self.assert_said(desk, ("kept comes a", found), ("kept true a",
                                                         verdict(desk.tour.sketch(), Directions("go on\nhere"),
                                                                               ("a", "ea"), "a", "true")[0]))
        # A start without a line, though two other ends of its crossing have one.
        town = town_of([("a", 3, (), ())], "a0-a1")
        desk = Desk(Tour(town, Directions("go on\nhere"), ("a", 2)))
        self.assert_fails(desk, "kept comes a", BadStart, ("a", "ec"))
        self.assert_fails(Desk(Tour(town, Directions("here"), ("zzaa", 0))), "kept comes a", Undrawn, ("zzaa",))
        desk = Desk(Tour(town, Directions("here"), ("a", 0)))
        self.assert_said(desk, ("kept comes a", verdict(desk.tour.sketch(), Directions("here"), ("a", "ea"), "a",
                                                        "comes")[0]))

    def test_more_towns(self):
        for start in [stop for street in GRID.streets for stop in street]:
            desk = Desk(Tour(GRID, Directions("while on\n  go on\ngo left 1\nhere"), start))
            for _ in range(3):
                desk.say("step")
                if desk.tour.finish is not None:
                    break
                behind = GRID[desk.tour.stop]
                try:
                    sketch = desk.tour.sketch()
                except Undrawn:
                    self.assertRaises(Undrawn, desk.say, "kept true " + start[0])
                    continue
                name = "e" + "abcd"[behind[1]]
                for wish in ("true", "stays", "comes"):
                    found = verdict(sketch, desk.tour.directions, (behind[0], name), start[0], wish)[0]
                    self.assert_said(desk, (f"kept {wish} {start[0]}", found))

    def test_any_two_words(self):
        desk = desk_of()
        desk.say("step")
        self.assert_fails(desk, "kept comes Bridge", BadGoal, "Bridge")
        self.assert_fails(desk, "kept x y,z", BadGoal, "y,z")
        self.assert_fails(desk, "kept ? 1", BadGoal, "1")
        self.assert_fails(desk, "kept come bridge", BadWish, "come")
        self.assert_fails(desk, "kept - bridge", BadWish, "-")

    def test_errors(self):
        names = ("a", "b", "c", "d", "e", "f")
        town = town_of([(name, 2, ((0, 1),), ()) for name in names], "a1-b0 b1-c0 c1-d0 d1-e0 e1-f0")
        desk = Desk(Tour(town, Directions("while on\n  go on"), ("a", 1)))
        for _ in range(5):
            desk.say("step")
        self.assert_fails(desk, "kept come nowhere", BadNames, names)
        town = town_of([("a", 2, (), ()), ("m", 2, ((0, 1),), ()), ("b", 1, (), ())], "a0-m0 m1-b0")
        desk = Desk(Tour(town, WAYS_401, ("a", 0)))
        desk.say("step")
        desk.say("go on")
        desk.say("go back")
        self.assert_fails(desk, "kept comes x", BadGoal, "x")
        self.assert_said(desk, ("where", "m 1"))

    def test_too_many(self):
        town = town_of([("a", 3, (), ()), ("m", 2, ((0, 1),), ()), ("b", 1, (), ())], "a0-m0 m1-a1 a2-b0")
        desk = Desk(Tour(town, WAYS_401, ("b", 0)))
        desk.say("step")
        # The line over m is no clear street.
        self.assert_fails(desk, "kept comes b", TooMany, 400)
        self.assert_fails(desk, "kept come b", BadWish, "come")


class BadLineTest(DeskCase):
    def test_any_values(self):
        desk = desk_of()
        desk.say("step")
        for value in any_values():
            self.assertIs(value, caught(self, BadLine, desk.say, value).value)

    def test_lines(self):
        desk = desk_of()
        desk.say("step")
        for word in ("step", "undo", "redo", "where", "view", "finish", "orders", "go on", "go back", "go left 1",
                     "kept comes baker"):
            for line in (word + " ", " " + word, word + "\n", "\n" + word, word.upper(), word + " 1",
                         word.replace(" ", "  ") + " ",
                         word + "\n" + word, word + "s s", word[1:]):
                self.assert_fails(desk, line, BadLine, line)
        for line in ("go", "go left", "go left 0", "go left 4", "go left one", "go right 1 1", "go on 1",
                     "go straight", "go  on", "go left1",
                     "kept", "kept comes", "kept comes baker x", "kept  baker", "kept comes ", "kept  ",
                     "kept comes ba\nker", "kept co\nmes baker",
                     "kept comes\nbaker", "kept\ncomes baker", "reword", "sketch", "journal", "here", "-", "copy",
                     "orders step", "|here"):
            self.assert_fails(desk, line, BadLine, line)


if __name__ == "__main__":
    unittest.main()
