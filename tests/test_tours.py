"""Promise 14: tours, their orders, undo and redo, what is drawn of them; promise 3, (g)."""

import unittest

from samples import any_values, caught, example_directions, example_town, star, town_of
from sketchways.directions import Directions
from sketchways.errors import BadChoice, BadNames, Finished, NoStop, NothingToRedo, NothingToUndo, NoWay, Undrawn
from sketchways.fits import drawn
from sketchways.tours import Tour
from sketchways.towns import Town
from sketchways.walking import walk

START = ("station", 0)
BRIDGE, BAKER, YARD = ("bridge", 0), ("baker", 0), ("yard", 0)
RING = Town((("a", 2, ((0, 1),), ()), ("b", 2, ((0, 1),), ("oak",))), ((("a", 0), ("b", 1)), (("a", 1), ("b", 0))))
GRID = town_of([("a", 4, ((0, 2), (1, 3)), ("oak",)), ("b", 3, (), ("inn",)), ("c", 4, ((0, 3),), ()),
                ("d", 2, ((0, 1),), ())],
               "a0-b1 a2-c0 a3-a1 b0-d0 c3-d1 c1-b2")


def lines(*rows):
    return "\n".join(rows)


def example_tour():
    return Tour(example_town(), example_directions(), START)


def told(tour):
    """All that can be asked of a tour."""
    return (tour.stop, tour.state, tour.stops, tour.finish, tour.orders, tour.directions.text, tour.journal)


def ways_on(tour):
    """How far a tour can be undone, and how far it can be redone, and all that it tells on the way."""
    other, found = tour.copy(), []
    for call, error in ((other.undo, NothingToUndo), (other.redo, NothingToRedo)):
        while True:
            found.append(told(other))
            try:
                call()
            except error:
                break
    return found


class TourCase(unittest.TestCase):
    def assert_told(self, tour, stop, state, stops, finish, orders):
        self.assertEqual((stop, state, tuple(stops), finish, orders),
                         (tour.stop, tour.state, tour.stops, tour.finish, tour.orders))

    def assert_changes_nothing(self, tour, error, call, *arguments):
        before = ways_on(tour)
        value = caught(self, error, call, *arguments).value
        self.assertEqual(before, ways_on(tour))
        return value


class StepTest(TourCase):
    def test_example(self):
        tour = example_tour()
        self.assert_told(tour, None, (-1,), (), None, 0)
        self.assertIsNone(tour.step())
        self.assert_told(tour, BRIDGE, (-1,), (BRIDGE,), None, 1)
        self.assertIsNone(tour.step())
        self.assert_told(tour, BAKER, (2,), (BRIDGE, BAKER), None, 2)
        self.assertIsNone(tour.step())
        self.assert_told(tour, BAKER, (2,), (BRIDGE, BAKER), "here", 3)
        self.assertEqual("here", self.assert_changes_nothing(tour, Finished, tour.step))

    def test_properties(self):
        town, directions = example_town(), example_directions()
        tour = Tour(start=START, directions=directions, town=town)
        self.assertIs(town, tour.town)
        self.assertIs(directions, tour.directions)
        self.assertEqual((None, (-1,), (), None, 0), (tour.stop, tour.state, tour.stops, tour.finish, tour.orders))
        self.assertIsInstance(tour.journal, str)

    def test_no_stop(self):
        for value in any_values() + [("yard", 1), ("yard", False), ["yard", 0], ("inn", 0), "yard"]:
            self.assertIs(value, caught(self, NoStop, Tour, example_town(), example_directions(), value).value)

    def test_as_walks_do(self):
        texts = (example_directions().text, "here", "go on", "go on\nhere", "go right 1\ngo left 2\nhere",
                 "until sign inn\n  go on",
                 lines("again 3", "  go left 1", "  if on", "    go on", "here"), "while on\n  go on\ngo back\nhere",
                 lines("until sign elm", "  if left", "    go left 1", "  else", "    go back"),
                 "while on\n  if not on\n    here",
                 lines("while not sign inn", "  go right 1", "  again 2", "    if ends 2", "      go on", "here"))
        finishes = set()
        for town in (example_town(), RING, GRID, ~GRID, star(4, ((0, 2), (1, 3)), ("inn",))):
            for text in texts:
                for start in [stop for street in town.streets for stop in street]:
                    stops, finish = walk(town, Directions(text), start)
                    tour, steps = Tour(town, Directions(text), start), 0
                    while tour.finish is None:
                        self.assertEqual((stops[:steps], stops[steps - 1] if steps else None), (tour.stops, tour.stop))
                        tour.step()
                        steps += 1
                    self.assertEqual((stops, finish, len(stops) + 1), (tour.stops, tour.finish, tour.orders))
                    self.assertEqual(stops[-1], tour.stop)
                    finishes.add(finish)
        self.assertEqual({"here", "lost", "round"}, finishes)

    def test_a_step_that_ends_the_walk(self):
        for text, state, finish in (("here", (-1,), "here"), ("go right 1", (-1,), "lost"),
                                    ("if left\n  if on\n    go on", (1,), None),
                                    ("while on\n  if right\n    here", (-1,), "round"),
                                    ("if not on\n  here", (-1,), "lost")):
            tour = Tour(example_town(), Directions(text), START)
            tour.step()
            tour.step()
            if finish is not None:
                self.assert_told(tour, BRIDGE, state, [BRIDGE], finish, 2)
                self.assertEqual(finish, caught(self, Finished, tour.step).value)
                tour.undo()
                self.assert_told(tour, BRIDGE, state, [BRIDGE], None, 1)

    def test_round(self):
        tour = Tour(RING, Directions("until sign inn\n  go on"), ("b", 0))
        stops = [("a", 1), ("b", 1), ("a", 1)]
        for k in range(3):
            tour.step()
            self.assert_told(tour, stops[k], (-1,) if k == 0 else (1,), stops[:k + 1], None, k + 1)
        tour.step()
        # It would stand at ("b", 1) in the state (1,) again.
        self.assert_told(tour, ("a", 1), (1,), stops, "round", 4)


class GoTest(TourCase):
    def test_choices(self):
        for choice, stop in ((("on",), YARD), (("back",), START), (("left", 1), BAKER)):
            tour = example_tour()
            tour.step()
            self.assertIsNone(tour.go(choice))
            self.assert_told(tour, stop, (-1,), [BRIDGE, stop], None, 2)

    def test_the_state_stays(self):
        tour = example_tour()
        tour.step()
        tour.step()
        tour.go(choice=("back",))
        self.assert_told(tour, ("bridge", 1), (2,), [BRIDGE, BAKER, ("bridge", 1)], None, 3)
        tour.step()
        self.assert_told(tour, ("bridge", 1), (2,), [BRIDGE, BAKER, ("bridge", 1)], "here", 4)
        tour = Tour(example_town(), Directions("again 2\n  go back\nhere"), START)
        tour.step()
        tour.step()
        self.assertEqual((0 + 1, 1), tour.state)
        tour.go(("back",))
        self.assertEqual((1, 1), tour.state)
        tour.step()
        self.assertEqual((1, 0), tour.state)

    def test_bad_choices(self):
        tour = example_tour()
        for value in any_values() + [("left",), ("left", 0), ("left", 4), ("left", True), ["on"], "on", "back",
                                     ("on", 1), ("go", "on"),
                                     ("right", "1"), ("straight",)]:
            self.assertIs(value, caught(self, BadChoice, tour.go, value).value)
        tour.step()
        self.assertEqual(1, self.assert_changes_nothing(tour, BadChoice, tour.go, 1))

    def test_no_way(self):
        tour = example_tour()
        for choice in (("on",), ("back",), ("left", 1)):
            self.assertIs(choice, self.assert_changes_nothing(tour, NoWay, tour.go, choice))
        tour.step()
        for choice in (("left", 2), ("right", 1), ("right", 3)):
            self.assertIs(choice, self.assert_changes_nothing(tour, NoWay, tour.go, choice))
        tour.go(("on",))
        self.assertEqual(("on",), self.assert_changes_nothing(tour, NoWay, tour.go, ("on",)))

    def test_finished(self):
        for text, finish in (("here", "here"), ("go right 1", "lost"), ("while on\n  if right\n    here", "round")):
            tour = Tour(example_town(), Directions(text), START)
            tour.step()
            tour.step()
            self.assertEqual(finish, self.assert_changes_nothing(tour, Finished, tour.go, ("back",)))
            # A choice that is none comes first, one that takes no end last.
            self.assertEqual("back", caught(self, BadChoice, tour.go, "back").value)
            self.assertEqual(finish, caught(self, Finished, tour.go, ("right", 1)).value)

    def test_round_counts_from_the_last_one(self):
        tour = Tour(example_town(), Directions("until sign inn\n  go back"), START)
        tour.step()
        tour.step()
        tour.step()
        self.assert_told(tour, BRIDGE, (1,), [BRIDGE, START, BRIDGE], None, 3)
        tour.go(("back",))
        # Here it stood in this state before, but not since the order by hand.
        self.assert_told(tour, START, (1,), [BRIDGE, START, BRIDGE, START], None, 4)
        tour.step()
        self.assert_told(tour, BRIDGE, (1,), [BRIDGE, START, BRIDGE, START, BRIDGE], None, 5)
        tour.step()
        # The stop right behind that order is counted, too.
        self.assert_told(tour, BRIDGE, (1,), [BRIDGE, START, BRIDGE, START, BRIDGE], "round", 6)
        self.assertEqual("round", caught(self, Finished, tour.go, ("back",)).value)


class RewordTest(TourCase):
    def test_first_state(self):
        tour = example_tour()
        tour.step()
        tour.step()
        other = Directions("go back\ngo on\nhere")
        self.assertIsNone(tour.reword(directions=other))
        self.assertIs(other, tour.directions)
        self.assert_told(tour, BAKER, (-1,), [BRIDGE, BAKER], None, 3)
        tour.step()
        self.assert_told(tour, ("bridge", 1), (0,), [BRIDGE, BAKER, ("bridge", 1)], None, 4)
        tour.step()
        self.assertEqual(("lost", 5), (tour.finish, tour.orders))

    def test_ahead_of_the_first_step(self):
        tour = example_tour()
        tour.reword(Directions("here"))
        self.assert_told(tour, None, (-1,), [], None, 1)
        tour.step()
        self.assert_told(tour, BRIDGE, (-1,), [BRIDGE], None, 2)
        tour.step()
        self.assert_told(tour, BRIDGE, (-1,), [BRIDGE], "here", 3)

    def test_a_tour_that_has_ended_goes_on(self):
        for text in ("here", "go right 1", "while on\n  if right\n    here"):
            tour = Tour(example_town(), Directions(text), START)
            tour.step()
            tour.step()
            tour.reword(example_directions())
            self.assert_told(tour, BRIDGE, (-1,), [BRIDGE], None, 3)
            tour.step()
            self.assert_told(tour, BAKER, (2,), [BRIDGE, BAKER], None, 4)
            tour.undo()
            tour.undo()
            self.assertIsNotNone(tour.finish)
            self.assertEqual(text, tour.directions.text)
            tour.redo()
            self.assertEqual((None, example_directions().text), (tour.finish, tour.directions.text))

    def test_round_counts_from_the_last_one(self):
        text = "until sign inn\n  go back"
        tour = Tour(example_town(), Directions(text), START)
        for _ in range(4):
            tour.step()
        self.assertEqual(("round", BRIDGE), (tour.finish, tour.stop))
        tour.reword(Directions(text))
        self.assert_told(tour, BRIDGE, (-1,), [BRIDGE, START, BRIDGE], None, 5)
        for _ in range(2):
            tour.step()
            self.assertIsNone(tour.finish)
        tour.step()
        self.assert_told(tour, BRIDGE, (1,), [BRIDGE, START, BRIDGE, START, BRIDGE], "round", 8)

    def test_the_same_directions_are_an_order_too(self):
        tour = example_tour()
        tour.step()
        tour.reword(example_directions())
        self.assertEqual((2, BRIDGE, (-1,)), (tour.orders, tour.stop, tour.state))


class UndoTest(TourCase):
    def tour_of_orders(self):
        tour = Tour(GRID, Directions("until sign inn\n  go on\nhere"), ("b", 0))
        orders = (tour.step, tour.step, lambda: tour.go(("left", 1)), tour.step,
                  lambda: tour.reword(Directions("go on")),
                  lambda: tour.go(("back",)), tour.step, tour.step, tour.step, lambda: tour.reword(Directions("here")),
                  tour.step)
        return tour, orders

    def test_nothing(self):
        tour = example_tour()
        self.assertIsNone(self.assert_changes_nothing(tour, NothingToUndo, tour.undo))
        self.assertIsNone(self.assert_changes_nothing(tour, NothingToRedo, tour.redo))
        tour.step()
        self.assertIsNone(self.assert_changes_nothing(tour, NothingToRedo, tour.redo))
        tour.undo()
        self.assertIsNone(self.assert_changes_nothing(tour, NothingToUndo, tour.undo))
        tour.redo()
        self.assertIsNone(self.assert_changes_nothing(tour, NothingToRedo, tour.redo))

    def test_all_is_as_before(self):
        tour, orders = self.tour_of_orders()
        found = [told(tour)]
        for order in orders:
            try:
                order()
                found.append(told(tour))
            except (Finished, NoWay):
                self.assertEqual(found[-1], told(tour))
        self.assertGreater(len(found), 7)
        for k in range(len(found) - 2, -1, -1):
            self.assertIsNone(tour.undo())
            self.assertEqual(found[k], told(tour))
        for k in range(1, len(found)):
            self.assertIsNone(tour.redo())
            self.assertEqual(found[k], told(tour))
        tour.undo()
        tour.undo()
        tour.redo()
        self.assertEqual(found[-2], told(tour))

    def test_another_order_ends_redo(self):
        for order in (lambda tour: tour.step(), lambda tour: tour.go(("on",)),
                      lambda tour: tour.reword(example_directions())):
            tour = example_tour()
            tour.step()
            tour.step()
            tour.undo()
            order(tour)
            self.assertEqual(2, tour.orders)
            self.assertIsNone(caught(self, NothingToRedo, tour.redo).value)
            tour.undo()
            self.assert_told(tour, BRIDGE, (-1,), [BRIDGE], None, 1)

    def test_an_order_that_fails_does_not(self):
        tour = example_tour()
        tour.step()
        tour.step()
        tour.undo()
        for error, choice in ((NoWay, ("right", 1)), (BadChoice, "on")):
            self.assert_changes_nothing(tour, error, tour.go, choice)
        tour.redo()
        self.assert_told(tour, BAKER, (2,), [BRIDGE, BAKER], None, 2)
        tour.step()
        tour.undo()
        tour.redo()
        caught(self, Finished, tour.step)
        self.assertEqual(("here", 3), (tour.finish, tour.orders))

    def test_what_is_redone_counts_for_round(self):
        tour = Tour(example_town(), Directions("until sign inn\n  go back"), START)
        for _ in range(3):
            tour.step()
        tour.undo()
        tour.undo()
        tour.redo()
        tour.redo()
        tour.step()
        self.assert_told(tour, BRIDGE, (1,), [BRIDGE, START, BRIDGE], "round", 4)

    def test_sixty_orders(self):
        tour = example_tour()
        tour.step()
        for _ in range(59):
            tour.go(("back",))
        self.assertEqual((60, 60), (tour.orders, len(tour.stops)))
        for _ in range(60):
            tour.undo()
        self.assert_told(tour, None, (-1,), [], None, 0)
        for _ in range(60):
            tour.redo()
        self.assertEqual((60, 60, START), (tour.orders, len(tour.stops), tour.stop))


class CopyTest(TourCase):
    def test_alike_in_all(self):
        tour = example_tour()
        for order in (tour.step, tour.step, tour.undo, lambda: tour.reword(Directions("go on")), tour.step, tour.undo):
            order()
            other = tour.copy()
            self.assertEqual(ways_on(tour), ways_on(other))
            self.assertTrue(tour == other)
            self.assertIs(Tour, other.__class__)

    def test_independent(self):
        tour = example_tour()
        tour.step()
        other = tour.copy()
        before = ways_on(other)
        tour.step()
        tour.reword(Directions("here"))
        self.assertEqual(before, ways_on(other))
        other.undo()
        self.assertEqual((3, 0), (tour.orders, other.orders))
        other.redo()
        other.step()
        self.assertEqual((BAKER, 2), (other.stop, other.orders))


class EqualTest(TourCase):
    def test_equal(self):
        one, other = example_tour(), example_tour()
        self.assertTrue(one == other)
        self.assertFalse(one != other)
        one.step()
        self.assertFalse(one == other)
        self.assertTrue(one != other)
        other.step()
        self.assertTrue(one == other)
        one.step()
        other.go(("left", 1))
        self.assertEqual(one.stops, other.stops)
        self.assertFalse(one == other)
        other.undo()
        other.step()
        self.assertTrue(one == other)

    def test_what_was_undone_counts_for_nothing(self):
        one, other = example_tour(), example_tour()
        one.step()
        one.undo()
        self.assertTrue(one == other and other == one)

    def test_rewords(self):
        one, other = example_tour(), example_tour()
        one.reword(Directions("here"))
        other.reword(Directions("here"))
        self.assertTrue(one == other)
        other.undo()
        other.reword(Directions("go on"))
        self.assertFalse(one == other)
        # The directions at first count, not those by which it goes now.
        third = Tour(example_town(), Directions("here"), START)
        self.assertFalse(one == third)
        third.reword(Directions("here"))
        self.assertFalse(one == third)

    def test_parts(self):
        tour = example_tour()
        for other in (Tour(~example_town(), example_directions(), START),
                      Tour(example_town(), Directions("here"), START),
                      Tour(example_town(), example_directions(), YARD)):
            self.assertFalse(tour == other)
            self.assertTrue(tour != other)
        tour.step()
        for choices in ((("left", 1), ("on",)), (("on",), ("back",))):
            one, other = tour.copy(), tour.copy()
            one.go(choices[0])
            other.go(choices[1])
            self.assertFalse(one == other)

    def test_nothing_else(self):
        tour = example_tour()
        for value in any_values() + [tour.journal, (tour,), [tour], tour.town]:
            self.assertFalse(tour == value)
            self.assertFalse(value == tour)
            self.assertTrue(tour != value)


class SketchTest(TourCase):
    def test_sketch(self):
        tour = example_tour()
        caught(self, Undrawn, tour.sketch)
        self.assertEqual(("station",), caught(self, Undrawn, tour.sketch).value)
        tour.step()
        self.assertTrue(drawn(example_town(), ("bridge", "station")) == tour.sketch())
        tour.step()
        self.assertTrue(drawn(example_town(), ("baker", "bridge", "station")) == tour.sketch())
        tour.go(("back",))
        self.assertTrue(drawn(example_town(), ("baker", "bridge", "station")) == tour.sketch())
        tour.undo()
        tour.undo()
        self.assertTrue(drawn(example_town(), ("bridge", "station")) == tour.sketch())

    def test_the_start_of_a_ring(self):
        tour = Tour(RING, Directions("go on\ngo on\nhere"), ("a", 0))
        self.assertTrue(drawn(RING, ("a",)) == tour.sketch())
        tour.step()
        self.assertTrue(drawn(RING, ("a", "b")) == tour.sketch())

    def test_bad_names(self):
        names = ("a", "b", "c", "d", "e", "f")
        town = town_of([(name, 2, ((0, 1),), ()) for name in names], "a1-b0 b1-c0 c1-d0 d1-e0 e1-f0")
        tour = Tour(town, Directions("while on\n  go on"), ("a", 1))
        for _ in range(4):
            tour.step()
        self.assertTrue(drawn(town, names[:5]) == tour.sketch())
        tour.step()
        self.assertEqual(names, self.assert_changes_nothing(tour, BadNames, tour.sketch))
        tour.undo()
        self.assertTrue(drawn(town, names[:5]) == tour.sketch())

    def test_undrawn(self):
        town = star(5, ((0, 2),))
        tour = Tour(town, Directions("go on"), ("za", 0))
        tour.step()
        self.assertEqual(1, len(tour.sketch().streets))
        for choice in (("left", 1), ("back",), ("left", 1), ("back",)):
            tour.go(choice)
        town = town_of([("a", 5, (), ()), ("b", 5, (), ())], "a0-b0 a1-b4 a2-b3 a3-b2 a4-b1")
        tour = Tour(town, Directions("go back\nhere"), ("a", 0))
        tour.step()
        self.assertEqual(("a", "b"), self.assert_changes_nothing(tour, Undrawn, tour.sketch))


if __name__ == "__main__":
    unittest.main()
