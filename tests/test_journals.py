"""Promises 14 and 15: journals, and tours that are read back from them; promise 3, (g)."""

import unittest

from samples import any_values, caught, example_directions, example_town, star
from sketchways.directions import Directions
from sketchways.errors import (BadCrossings, BadStreets, BadText, Finished, NoStop, NothingToRedo, NothingToUndo, NoWay,
                               TooMany)
from sketchways.journals import read_tour
from sketchways.tours import Tour
from test_texts import TOWN, with_line
from test_tours import GRID, RING, START, told, ways_on

HEAD = TOWN + "\nstart station 0\n|until sign bridge\n|  go on\n|go left 1\n|here\norders"
ORDERS = "\nstep\ngo back\nreword\n|until sign bread\n|  go back\n|here\nstep\ngo left 1\nstep\nreword\n|here"


def tour_of_orders():
    tour = Tour(example_town(), example_directions(), START)
    tour.step()
    tour.go(("back",))
    tour.reword(Directions("until sign bread\n  go left 1\nhere"))
    return tour


class JournalTest(unittest.TestCase):
    def test_orders(self):
        tour = Tour(example_town(), example_directions(), START)
        self.assertEqual(HEAD, tour.journal)
        tour.step()
        self.assertEqual(HEAD + "\nstep", tour.journal)
        for choice, line in ((("on",), "go on"), (("back",), "go back"), (("left", 1), "go left 1")):
            tour.go(choice)
            self.assertEqual(HEAD + "\nstep\n" + line, tour.journal)
            tour.undo()
        tour.go(("back",))
        tour.reword(Directions("if on\n  here\ngo left 3"))
        self.assertEqual(HEAD + "\nstep\ngo back\nreword\n|if on\n|  here\n|go left 3", tour.journal)
        tour.undo()
        tour.undo()
        self.assertEqual(HEAD + "\nstep", tour.journal)
        tour.redo()
        self.assertEqual(HEAD + "\nstep\ngo back", tour.journal)

    def test_right_and_a_step_that_ends(self):
        tour = Tour(star(4, ((0, 2),)), Directions("here"), ("mid", 3))
        rows = tour.journal.split("\n")
        self.assertEqual(["start mid 3", "|here", "orders"], rows[-3:])
        tour.step()
        tour.go(("back",))
        tour.go(("right", 3))
        tour.step()
        self.assertEqual(rows + ["step", "go back", "go right 3", "step"], tour.journal.split("\n"))

    def test_read_back(self):
        tour = tour_of_orders()
        self.assertEqual(tour.journal, read_tour(tour.journal).journal)
        other = read_tour(text=tour.journal)
        self.assertIs(Tour, other.__class__)
        self.assertTrue(tour == other)
        self.assertEqual(ways_on(tour), ways_on(other))
        self.assertTrue(tour.town == other.town)

    def test_what_was_undone_is_not_read_back(self):
        tour = tour_of_orders()
        tour.undo()
        other = read_tour(tour.journal)
        self.assertTrue(tour == other)
        self.assertEqual(told(tour), told(other))
        self.assertIsNone(caught(self, NothingToRedo, other.redo).value)
        for _ in range(2):
            other.undo()
        self.assertIsNone(caught(self, NothingToUndo, other.undo).value)

    def test_all_tours_are_read_back(self):
        texts = ("until sign inn\n  go on\nhere", "again 3\n  go left 1\n  if on\n    go on\nhere",
                 "while on\n  go on\ngo back")
        for town, start in ((GRID, ("b", 0)), (~GRID, ("c", 1)), (RING, ("a", 0)), (example_town(), START)):
            for text in texts:
                tour = Tour(town, Directions(text), start)
                orders = [tour.step, tour.step, lambda: tour.go(("back",)), tour.step,
                          lambda: tour.reword(Directions(texts[0])),
                          lambda: tour.go(("right", 1)), tour.step, tour.step, tour.step,
                          lambda: tour.reword(Directions("here")),
                          tour.step]
                for order in orders:
                    try:
                        order()
                    except (Finished, NoWay):
                        continue
                    other = read_tour(tour.journal)
                    self.assertTrue(tour == other)
                    self.assertEqual(ways_on(tour), ways_on(other))


class ReadTourTest(unittest.TestCase):
    def assert_bad_text(self, text, number):
        with self.subTest(text=text):
            value = caught(self, BadText, read_tour, text).value
            self.assertEqual((number, int), (value, value.__class__))

    def test_orders(self):
        tour = read_tour(HEAD + ORDERS)
        self.assertEqual((7, None, "here"), (tour.orders, tour.finish, tour.directions.text))
        self.assertEqual(HEAD + ORDERS, tour.journal)
        self.assertEqual((0, None), (read_tour(HEAD).orders, read_tour(HEAD).stop))

    def test_orders_of_one_kind_behind_one_another(self):
        for orders in ("\nstep\nstep", "\nstep\ngo back\ngo back",
                       "\nreword\n|here\nreword\n|go on\n|here\nreword\n|here"):
            self.assertEqual(HEAD + orders, read_tour(HEAD + orders).journal)
            self.assertEqual(orders.count("step") + orders.count("go back") + orders.count("reword"),
                             read_tour(HEAD + orders).orders)

    def test_towns_without_streets_are_for_town(self):
        text = "crossing a 1 - -\nstart a 0\n|here\norders"
        self.assertEqual((), caught(self, BadStreets, read_tour, text).value)

    def test_any_values(self):
        for value in any_values():
            self.assert_bad_text(value, 0 if isinstance(value, str) else -1)

    def test_missing_at_the_end(self):
        rows = (HEAD + ORDERS).split("\n")
        many = len(HEAD.split("\n"))
        for k in range(1, many):
            self.assert_bad_text("\n".join(rows[:k]), k)
        for k in range(many, len(rows)):
            if rows[k] == "reword":
                self.assert_bad_text("\n".join(rows[:k + 1]), k + 1)
            elif rows[k] == "step" or rows[k] == "here":
                self.assertEqual("\n".join(rows[:k + 1]), read_tour("\n".join(rows[:k + 1])).journal)

    def test_a_line_too_few(self):
        rows = (HEAD + ORDERS).split("\n")
        # Number of the line that is left out, and of the line that may not stand there then.
        for out, number in ((7, 7), (12, 12)):
            self.assert_bad_text("\n".join(rows[:out] + rows[out + 1:]), number)
        self.assert_bad_text("\n".join(rows[4:]), 0)
        self.assert_bad_text("\n".join(rows[7:]), 0)
        self.assert_bad_text("\n".join(rows[:8] + rows[12:]), 8)
        self.assert_bad_text("\n".join(rows[:15] + rows[16:]), 15)
        self.assert_bad_text("\n".join(rows[:16] + rows[19:]), 16)
        self.assert_bad_text("\n".join(rows[:-1]), len(rows) - 1)

    def test_a_line_twice(self):
        rows = (HEAD + ORDERS).split("\n")
        for k in (7, 12, 15):
            self.assert_bad_text("\n".join(rows[:k + 1] + rows[k:]), k + 1)
        self.assert_bad_text("\n".join(rows + rows[:1]), len(rows))

    def test_a_line_elsewhere(self):
        rows = (HEAD + ORDERS).split("\n")
        for k, line, number in ((1, rows[4], 2), (0, rows[4], 0), (0, rows[7], 0), (0, "|here", 0), (0, "orders", 0),
                                (0, "step", 0),
                                (4, "|here", 4), (4, "orders", 4), (4, "step", 4), (6, rows[0], 6), (6, "|here", 6),
                                (6, "orders", 6),
                                (8, rows[0], 8), (8, rows[4], 8), (8, rows[7], 8), (8, "orders", 8), (8, "step", 8),
                                (10, rows[0], 10), (10, rows[4], 10), (10, rows[7], 10), (10, "step", 10),
                                (10, "reword", 10),
                                (13, "|here", 13), (14, "|here", 14), (14, "orders", 14), (14, rows[7], 14),
                                (14, rows[0], 14),
                                (14, rows[4], 14), (15, "|here", 15), (16, "step", 16), (16, "go on", 16),
                                (16, "reword", 16),
                                (16, "orders", 16), (20, "|here", 20), (17, "orders", 17)):
            self.assert_bad_text("\n".join(rows[:k] + [line] + rows[k:]), number)
        self.assert_bad_text("\n".join(rows[:7] + rows[8:12] + rows[7:8] + rows[12:]), 7)

    def test_signs_more_or_less(self):
        text = HEAD + ORDERS
        rows = text.split("\n")
        for number, line in enumerate(rows):
            others = [" " + line, ""]
            if not line.startswith("|"):
                others += [line + " ", line + "  x", line[:-1] if line in ("orders", "step", "reword") else line + ",",
                           line.upper(),
                           line.replace(" ", "  ") if " " in line else line + "s", "|" + line if number != 8 else "x"]
            for other in others:
                # A line with | may stand where directions do.
                if not (other.startswith("|") and (number in range(8, 13) or rows[number - 1].startswith("|"))):
                    self.assert_bad_text(with_line(text, number, other), number)
        for line in ("start station", "start station s", "start station 00", "start station 0 0", "start Station 0",
                     "start - 0",
                     "start station -1", "start station,0", "start abcdefghi 0", "start 0 station", "begin station 0"):
            self.assert_bad_text(with_line(text, 7, line), 7)
        for line in ("go", "go left", "go left 0", "go left 4", "go left 01", "go left one", "go left 1 1", "go on 1",
                     "go back 1",
                     "go straight", "go right", "go  on", "go left  1", "Go on", "undo", "redo", "here", "step 1",
                     "steps", "go-on"):
            self.assert_bad_text(with_line(text, 14, line), 14)
        for line in ("crossing yard 01 - -", "crossing yard a - -", "crossing yard 1 - -,", "full yard",
                     "crossing yard 1 -"):
            self.assert_bad_text(with_line(text, 3, line), 3)
        for line in ("street bridge 2 yard", "street bridge c yard 0", "clear bridge a", "only inn"):
            self.assert_bad_text(with_line(text, 6, line), 6)
        self.assert_bad_text(text + "\n", len(rows))

    def test_forms_come_first(self):
        text = with_line(HEAD, 0, "crossing baker 0 - -")
        self.assertEqual(0, caught(self, BadCrossings, read_tour, text).value[0][1])
        self.assert_bad_text(text + "\ngo left 4", 13)
        self.assert_bad_text(text + "\nreword", 14)
        text = with_line(HEAD, 8, "|no line")
        self.assert_bad_text(text, 0)
        self.assert_bad_text(text + "\nlater", 13)

    def test_errors_of_the_parts_in_order(self):
        wrong_town = (0, "crossing baker 2 - -")
        wrong_directions = (9, "| go on")
        wrong_start = (7, "start station 1")
        caught(self, BadStreets, read_tour, with_line(HEAD, *wrong_town))
        self.assertEqual(1, caught(self, BadText, read_tour, with_line(HEAD, *wrong_directions)).value)
        self.assertEqual(("station", 1), caught(self, NoStop, read_tour, with_line(HEAD, *wrong_start)).value)
        self.assertEqual(("inn", 0), caught(self, NoStop, read_tour, with_line(HEAD, 7, "start inn 0")).value)
        text = with_line(with_line(with_line(HEAD, *wrong_town), *wrong_directions), *wrong_start)
        caught(self, BadStreets, read_tour, text + "\ngo on")
        text = with_line(with_line(HEAD, *wrong_directions), *wrong_start)
        self.assertEqual(1, caught(self, BadText, read_tour, text + "\ngo on").value)
        caught(self, NoStop, read_tour, with_line(HEAD, *wrong_start) + "\ngo on")

    def test_directions(self):
        for line, number in (("|", 0), ("| ", 0), ("||here", 0), ("|until sign Bridge", 0), ("|until sign bridge ", 0),
                             ("|go on", 1)):
            self.assertEqual(number, caught(self, BadText, read_tour, with_line(HEAD, 8, line)).value)
        self.assertEqual(4, caught(self, BadText, read_tour, with_line(HEAD, 11, "|if on")).value)
        rows = ["|again 3", "|  again 3", "|    go on", "|    go on"]
        head = HEAD.split("\n")
        self.assertEqual(12, caught(self, TooMany, read_tour, "\n".join(head[:8] + rows + head[12:])).value)
        rows = [row for sign in "abcde" for row in ("|if sign " + sign, "|  here")]
        self.assertEqual(4, caught(self, TooMany, read_tour, "\n".join(head[:8] + rows + head[12:])).value)
        self.assertEqual(20, caught(self, BadText, read_tour, "\n".join(head[:8] + ["|here"] * 21 + head[12:])).value)

    def test_the_first_order_that_fails(self):
        text = HEAD + "\nstep\nstep\nstep"
        self.assertEqual("here", read_tour(text).finish)
        self.assertEqual("here", caught(self, Finished, read_tour, text + "\nstep").value)
        self.assertEqual("here", caught(self, Finished, read_tour, text + "\ngo back").value)
        self.assertEqual(("on",), caught(self, NoWay, read_tour, HEAD + "\ngo on").value)
        self.assertEqual(("right", 1), caught(self, NoWay, read_tour, HEAD + "\nstep\ngo right 1").value)
        self.assertEqual(("left", 3), caught(self, NoWay, read_tour, HEAD + "\nstep\ngo left 3\nstep").value)
        self.assertEqual(1, caught(self, BadText, read_tour, HEAD + "\nreword\n|here\n| here").value)
        self.assertEqual(1, caught(self, BadText, read_tour, HEAD + "\nstep\nreword\n|if on\ngo right 1").value)
        self.assertEqual(("right", 1), caught(self, NoWay, read_tour,
                                              HEAD + "\nstep\ngo right 1\nreword\n|if on").value)
        self.assertEqual("here", caught(self, Finished, read_tour, text + "\nstep\nreword\n|if on").value)
        self.assertEqual(0, caught(self, BadText, read_tour, HEAD + "\nreword\n|\nstep\nstep\nstep\nstep").value)
        self.assertEqual(12, caught(self, TooMany, read_tour,
                                    HEAD + "\nreword\n|again 3\n|  again 3\n|    go on\n|    go on").value)
        self.assertEqual(None, read_tour(text + "\nreword\n|go back\n|here\nstep").finish)


if __name__ == "__main__":
    unittest.main()
