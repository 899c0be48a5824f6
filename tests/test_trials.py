"""Promise 14: tried and trial; promise 3, (g): trials leave nothing."""

import unittest

from samples import any_values, example_directions, example_town
from sketchways.directions import Directions
from sketchways.errors import Finished, NothingToRedo, NothingToUndo
from sketchways.tours import Tour
from test_tours import BAKER, BRIDGE, START, told, ways_on


class Odd(Exception):
    pass


class Ended(BaseException):
    pass


def tour_with_undone():
    """A tour of which two orders stand, and two can be done again."""
    tour = Tour(example_town(), example_directions(), START)
    for order in (tour.step, tour.step, lambda: tour.reword(Directions("go back\nhere")), tour.step, tour.undo,
                  tour.undo):
        order()
    return tour


def looks():
    """What may be done with a tour in a trial."""
    def steps(tour):
        tour.step()
        return "steps"

    def undoes(tour):
        tour.undo()
        tour.undo()
        return tour

    def rewords(tour):
        tour.undo()
        tour.go(("on",))
        tour.reword(Directions("here"))
        tour.step()
        return tour.stops

    def redoes(tour):
        tour.redo()
        tour.redo()

    return steps, undoes, rewords, redoes, lambda tour: None


class TriedTest(unittest.TestCase):
    def test_what_look_returns(self):
        tour, seen = tour_with_undone(), []
        for value in any_values() + [tour]:
            self.assertIs(value, tour.tried(lambda other: value))
            self.assertIs(value, tour.tried(lambda other: value, keep=True))
        tour.tried(look=seen.append)
        self.assertEqual(1, len(seen))
        self.assertIs(tour, seen[0])

    def test_nothing_is_left(self):
        for look in looks():
            for named in ({}, {"keep": False}, {"keep": 1}, {"keep": "yes"}, {"keep": None}, {"keep": (True,)},
                          {"keep": [0]}):
                tour = tour_with_undone()
                before = ways_on(tour)
                tour.tried(look, **named)
                self.assertEqual(before, ways_on(tour))

    def test_all_is_kept(self):
        for look in looks():
            tour, other = tour_with_undone(), tour_with_undone()
            tour.tried(look, keep=True)
            look(other)
            self.assertEqual(ways_on(other), ways_on(tour))
            self.assertTrue(tour == other)

    def test_what_is_kept_is_undone_and_redone(self):
        tour = tour_with_undone()
        tour.tried(lambda other: other.step(), keep=True)
        self.assertEqual(("here", 3), (tour.finish, tour.orders))
        self.assertRaises(NothingToRedo, tour.redo)
        tour.undo()
        self.assertEqual((BAKER, None, 2), (tour.stop, tour.finish, tour.orders))
        tour.redo()
        self.assertEqual("here", tour.finish)

    def test_errors(self):
        for error in (Odd, Ended, Finished, KeyboardInterrupt):
            for keep in (False, True):
                tour = tour_with_undone()
                before = ways_on(tour)

                def look(other):
                    other.step()
                    other.undo()
                    other.undo()
                    raise error("odd")

                with self.assertRaises(error) as context:
                    tour.tried(look, keep=keep)
                self.assertEqual(("odd",), context.exception.args)
                self.assertEqual(before, ways_on(tour))

    def test_errors_that_look_catches(self):
        tour = tour_with_undone()

        def look(other):
            other.step()
            try:
                other.step()
            except Finished as error:
                return error.value
            return None

        before = ways_on(tour)
        self.assertEqual("here", tour.tried(look))
        self.assertEqual(before, ways_on(tour))
        self.assertEqual("here", tour.tried(look, keep=True))
        self.assertEqual(("here", 3), (tour.finish, tour.orders))

    def test_keep_by_name_only(self):
        self.assertRaises(TypeError, tour_with_undone().tried, lambda tour: None, True)

    def test_in_one_another(self):
        for inner in (False, True):
            for outer in (False, True):
                tour = tour_with_undone()
                before = ways_on(tour)

                def look(other):
                    other.undo()
                    other.tried(lambda third: third.go(("on",)), keep=inner)
                    return other.orders

                self.assertEqual(2 if inner else 1, tour.tried(look, keep=outer))
                if outer:
                    self.assertEqual((2, ("yard", 0)) if inner else (1, BRIDGE), (tour.orders, tour.stop))
                else:
                    self.assertEqual(before, ways_on(tour))

    def test_copies_stay(self):
        tour, copies = tour_with_undone(), []

        def look(other):
            other.step()
            copies.append(other.copy())

        tour.tried(look)
        self.assertEqual((3, "here"), (copies[0].orders, copies[0].finish))
        copies[0].undo()
        self.assertEqual((2, None), (copies[0].orders, copies[0].finish))


class TrialTest(unittest.TestCase):
    def test_nothing_is_left(self):
        for look in looks():
            tour = tour_with_undone()
            before = ways_on(tour)
            with tour.trial() as trial:
                look(tour)
            self.assertEqual(before, ways_on(tour))
            self.assertIsNotNone(trial)

    def test_all_is_kept(self):
        for look in looks():
            for early in (True, False):
                tour, other = tour_with_undone(), tour_with_undone()
                with tour.trial() as trial:
                    if early:
                        self.assertIsNone(trial.keep())
                    look(tour)
                    if not early:
                        trial.keep()
                        trial.keep()
                look(other)
                self.assertEqual(ways_on(other), ways_on(tour))

    def test_errors(self):
        for error in (Odd, Ended, KeyboardInterrupt):
            for keep in (False, True):
                tour = tour_with_undone()
                before = ways_on(tour)
                with self.assertRaises(error) as context:
                    with tour.trial() as trial:
                        tour.undo()
                        tour.go(("on",))
                        if keep:
                            trial.keep()
                        raise error("odd")
                self.assertEqual(("odd",), context.exception.args)
                self.assertEqual(before, ways_on(tour))
        tour = tour_with_undone()
        before = ways_on(tour)
        with self.assertRaises(Finished):
            with tour.trial() as trial:
                trial.keep()
                tour.step()
                tour.step()
        self.assertEqual(before, ways_on(tour))

    def test_errors_that_do_not_leave_the_block(self):
        tour = tour_with_undone()
        with tour.trial() as trial:
            tour.step()
            self.assertRaises(Finished, tour.step)
            trial.keep()
        self.assertEqual(("here", 3), (tour.finish, tour.orders))

    def test_who_returns_from_the_block(self):
        def gone(tour, keep):
            with tour.trial() as trial:
                tour.undo()
                if keep:
                    trial.keep()
                return tour.orders

        tour = tour_with_undone()
        before = ways_on(tour)
        self.assertEqual(1, gone(tour, False))
        self.assertEqual(before, ways_on(tour))
        self.assertEqual(1, gone(tour, True))
        self.assertEqual(1, tour.orders)

    def test_what_is_done_ahead_of_the_block_and_behind_it(self):
        tour = tour_with_undone()
        trial = tour.trial()
        tour.undo()
        before = ways_on(tour)
        with trial as other:
            tour.go(("on",))
        self.assertEqual(before, ways_on(tour))
        tour.go(("on",))
        other.keep()
        self.assertEqual((2, ("yard", 0)), (tour.orders, tour.stop))
        # To keep it ahead of the block is not to keep it in the block.
        trial = tour.trial()
        trial.keep()
        before = ways_on(tour)
        with trial:
            tour.undo()
        self.assertEqual(before, ways_on(tour))

    def test_in_one_another(self):
        for inner in (False, True):
            for outer in (False, True):
                tour = tour_with_undone()
                before = ways_on(tour)
                with tour.trial() as first:
                    tour.undo()
                    with tour.trial() as second:
                        tour.go(("on",))
                        if inner:
                            second.keep()
                    self.assertEqual((2, ("yard", 0)) if inner else (1, BRIDGE), (tour.orders, tour.stop))
                    if outer:
                        first.keep()
                if outer:
                    self.assertEqual((2, ("yard", 0)) if inner else (1, BRIDGE), (tour.orders, tour.stop))
                else:
                    self.assertEqual(before, ways_on(tour))

    def test_with_tried(self):
        tour = tour_with_undone()
        before = ways_on(tour)
        with tour.trial():
            tour.tried(lambda other: other.undo(), keep=True)
            self.assertEqual(1, tour.orders)
        self.assertEqual(before, ways_on(tour))

        def look(other):
            with other.trial() as trial:
                other.undo()
                trial.keep()
            return other.orders

        self.assertEqual(1, tour.tried(look))
        self.assertEqual(before, ways_on(tour))

    def test_copies_are_outside_of_all_blocks(self):
        tour = tour_with_undone()
        with tour.trial():
            tour.step()
            other = tour.copy()
            with tour.trial() as trial:
                third = tour.copy()
                third.undo()
                trial.keep()
            before = ways_on(third)
        self.assertEqual((2, 3, 2), (tour.orders, other.orders, third.orders))
        self.assertEqual(before, ways_on(third))
        # A copy that is changed in the block of another tour is not changed back.
        with tour.trial():
            other.undo()
            other.undo()
        self.assertEqual((2, 1), (tour.orders, other.orders))

    def test_an_order_behind_a_trial(self):
        tour = tour_with_undone()
        with tour.trial():
            tour.undo()
            tour.undo()
            self.assertRaises(NothingToUndo, tour.undo)
        tour.redo()
        self.assertEqual("go back\nhere", tour.directions.text)
        tour.redo()
        self.assertEqual((4, ("bridge", 1), (0,)), (tour.orders, tour.stop, tour.state))
        self.assertRaises(NothingToRedo, tour.redo)
        self.assertEqual(4, told(tour)[4])


if __name__ == "__main__":
    unittest.main()
