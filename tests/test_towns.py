"""Promise 4: the class Town, its properties and its operators."""

import unittest

from samples import PLACES, STREETS, any_values, caught, example_sketch, example_town, star
from sketchways.errors import BadCrossings, BadStreets, NoStop
from sketchways.towns import Town

LOOP = ((("a", 0), ("a", 1)),)


def loops(name, ends):
    """Streets that join each two ends of one crossing."""
    return tuple(((name, k), (name, k + 1)) for k in range(0, ends, 2))


class TakenTest(unittest.TestCase):
    def assert_taken(self, crossings, streets):
        town = Town(crossings, streets)
        self.assertIs(crossings, town.crossings)
        self.assertIs(streets, town.streets)

    def test_example(self):
        self.assert_taken(PLACES, STREETS)

    def test_arguments_by_name(self):
        town = Town(streets=STREETS, crossings=PLACES)
        self.assertEqual((PLACES, STREETS), (town.crossings, town.streets))

    def test_a_street_between_ends_of_one_crossing(self):
        self.assert_taken((("a", 2, (), ()),), LOOP)
        self.assert_taken((("a", 2, ((0, 1),), ()),), LOOP)

    def test_one_end(self):
        self.assert_taken((("a", 1, (), ()), ("b", 1, (), ())), ((("a", 0), ("b", 0)),))

    def test_twenty_ends(self):
        self.assert_taken((("a", 20, ((0, 19), (1, 2)), ()),), loops("a", 20))

    def test_stops_in_the_order_of_numbers(self):
        streets = tuple((("a", k), ("a", k + 10)) for k in range(10))
        self.assert_taken((("a", 20, (), ()),), streets)

    def test_names(self):
        for name in ("a", "z", "abcdefgh", "zzzzzzzz"):
            self.assert_taken(((name, 2, (), (name,)),), loops(name, 2))

    def test_several_straight_pairs_and_signs(self):
        self.assert_taken((("a", 6, ((0, 5), (1, 3), (2, 4)), ("a", "ab", "b", "c", "d", "e", "f")),), loops("a", 6))

    def test_many_crossings(self):
        names = sorted(one + other for one in "abcdefghij" for other in "abcdefghij")
        crossings = tuple((name, 2, ((0, 1),), ()) for name in names)
        self.assert_taken(crossings, tuple(((name, 0), (name, 1)) for name in names))


class BadCrossingsTest(unittest.TestCase):
    def assert_bad(self, crossings, streets=LOOP):
        with self.subTest(crossings=crossings):
            self.assertIs(crossings, caught(self, BadCrossings, Town, crossings, streets).value)
            self.assertIs(crossings, caught(self, BadCrossings, Town, streets=None, crossings=crossings).value)

    def test_any_values(self):
        for value in any_values():
            self.assert_bad(value)
            self.assert_bad((value,))
            self.assert_bad((("a", 2, (), ()), value))

    def test_any_values_in_a_crossing(self):
        for value in any_values():
            self.assert_bad(((value, 2, (), ()),))
            self.assert_bad((("a", 2, (value,), ()),))
            self.assert_bad((("a", 2, (), (value,)),))
            if value != 1 or value is True:
                self.assert_bad((("a", value, (), ()),))
            if value != ():
                self.assert_bad((("a", 2, value, ()),))
            if value not in ((), ("bridge",)):
                self.assert_bad((("a", 2, (), value),))

    def test_no_crossing(self):
        self.assert_bad((), ())

    def test_lists_in_the_place_of_tuples(self):
        self.assert_bad([("a", 2, (), ())])
        self.assert_bad((["a", 2, (), ()],))
        self.assert_bad((("a", 2, [], ()),))
        self.assert_bad((("a", 2, [(0, 1)], ()),))
        self.assert_bad((("a", 2, ([0, 1],), ()),))
        self.assert_bad((("a", 2, (), []),))
        self.assert_bad((("a", 2, (), ["b"]),))

    def test_the_length_of_a_crossing(self):
        self.assert_bad((("a", 2, ()),))
        self.assert_bad((("a", 2, (), (), ()),))

    def test_names_of_crossings(self):
        for name in ("", "abcdefghi", "A", "aB", "a1", "1", "a b", " a", "a ", "a\n", "a_", "a-b", "a.", "`", "{"):
            self.assert_bad(((name, 2, (), ()),), loops(name, 2))

    def test_names_that_stand_twice(self):
        self.assert_bad((("a", 1, (), ()), ("a", 1, (), ())))
        self.assert_bad((("a", 1, (), ()), ("a", 2, (), ())))

    def test_crossings_that_are_not_ascending(self):
        self.assert_bad((("b", 1, (), ()), ("a", 1, (), ())), ((("a", 0), ("b", 0)),))
        self.assert_bad((("a", 2, (), ()), ("c", 2, (), ()), ("b", 2, (), ())),
                        loops("a", 2) + loops("b", 2) + loops("c", 2))

    def test_numbers_of_ends(self):
        for ends in (0, 21, -1, -2, 100, True, "2", None, (2,)):
            self.assert_bad((("a", ends, (), ()),))
        self.assert_bad((("a", 0, (), ()), ("b", 2, (), ())), loops("b", 2))
        self.assert_bad((("a", 21, (), ()), ("b", 1, (), ())), loops("a", 20) + ((("a", 20), ("b", 0)),))
        self.assert_bad((("a", 22, (), ()),), loops("a", 22))
        self.assert_bad((("a", True, (), ()), ("b", 1, (), ())), ((("a", 0), ("b", 0)),))

    def assert_bad_straight(self, straight, ends=4):
        self.assert_bad((("a", ends, straight, ()),), loops("a", ends))

    def test_a_straight_pair_turned_about(self):
        self.assert_bad_straight(((1, 0),))

    def test_a_straight_pair_of_one_end_with_itself(self):
        self.assert_bad_straight(((1, 1),))

    def test_an_end_in_two_straight_pairs(self):
        self.assert_bad_straight(((0, 1), (1, 2)))
        self.assert_bad_straight(((0, 1), (0, 2)))
        self.assert_bad_straight(((0, 2), (1, 2)))
        self.assert_bad_straight(((0, 1), (0, 1)))

    def test_a_straight_pair_of_an_end_that_is_not_there(self):
        self.assert_bad_straight(((0, 4),))
        self.assert_bad_straight(((-1, 0),))
        self.assert_bad_straight(((4, 5),))

    def test_straight_pairs_that_are_not_ascending(self):
        self.assert_bad_straight(((2, 3), (0, 1)))
        self.assert_bad_straight(((1, 2), (0, 3)))

    def test_straight_pairs_of_other_kinds(self):
        for pair in ((0, True), (False, 1), (False, True), ("0", "1"), (0,), (0, 1, 2), (0, None), (None, 1)):
            self.assert_bad_straight((pair,))
        self.assert_bad_straight((0, 1))

    def test_signs(self):
        for signs in (("",), ("abcdefghi",), ("A",), ("b", "a"), ("a", "a"), (1,), (True,), (None,), "a", ("a", ["b"])):
            self.assert_bad((("a", 2, (), signs),))


class BadStreetsTest(unittest.TestCase):
    def assert_bad(self, streets, crossings=(("a", 3, (), ()), ("b", 1, (), ()))):
        with self.subTest(streets=streets):
            self.assertIs(streets, caught(self, BadStreets, Town, crossings, streets).value)
            self.assertIs(streets, caught(self, BadStreets, Town, streets=streets, crossings=crossings).value)

    def test_what_is_right(self):
        town = Town((("a", 3, (), ()), ("b", 1, (), ())), ((("a", 0), ("a", 1)), (("a", 2), ("b", 0))))
        self.assertEqual(2, len(town.streets))

    def test_any_values(self):
        for value in any_values():
            self.assert_bad(value)
            self.assert_bad((value,))
            self.assert_bad(((("a", 0), ("a", 1)), value))
            self.assert_bad(((("a", 0), ("a", 1)), (("a", 2), value)))
            self.assert_bad(((value, ("a", 1)), (("a", 2), ("b", 0))))
            self.assert_bad(((("a", 0), ("a", 1)), (("a", 2), ("b", value))) if value != 0 or value is False else None)
            self.assert_bad(((("a", 0), ("a", 1)), (("a", 2), (value, 0))))

    def test_a_stop_left_out(self):
        self.assert_bad(((("a", 0), ("a", 1)),))
        self.assert_bad(())
        self.assert_bad((), (("a", 1, (), ()),))

    def test_a_stop_used_twice(self):
        self.assert_bad(((("a", 0), ("a", 1)), (("a", 0), ("a", 2))))
        self.assert_bad(((("a", 0), ("a", 1)), (("a", 1), ("a", 2)), (("a", 2), ("b", 0))))
        self.assert_bad(((("a", 0), ("a", 2)), (("a", 1), ("a", 2))))
        self.assert_bad(((("a", 0), ("a", 1)), (("a", 0), ("a", 1))))
        self.assert_bad(((("a", 0), ("a", 1)), (("a", 2), ("b", 0)), (("a", 2), ("b", 0))))

    def test_a_stop_joined_with_itself(self):
        self.assert_bad(((("a", 0), ("a", 1)), (("a", 2), ("a", 2)), (("b", 0), ("b", 0))))
        self.assert_bad(((("a", 0), ("a", 0)),), (("a", 1, (), ()),))

    def test_a_street_turned_about(self):
        self.assert_bad(((("a", 0), ("a", 1)), (("b", 0), ("a", 2))))
        self.assert_bad(((("a", 1), ("a", 0)), (("a", 2), ("b", 0))))

    def test_streets_that_are_not_ascending(self):
        self.assert_bad(((("a", 2), ("b", 0)), (("a", 0), ("a", 1))))

    def test_stops_that_are_not_there(self):
        self.assert_bad(((("a", 0), ("a", 1)), (("a", 2), ("b", 0)), (("c", 0), ("c", 1))))
        self.assert_bad(((("a", 0), ("a", 1)), (("a", 2), ("a", 3))))
        self.assert_bad(((("a", 0), ("a", 1)), (("a", 2), ("b", 1))))
        self.assert_bad(((("a", -1), ("a", 0)), (("a", 1), ("b", 0))))

    def test_true_in_the_place_of_one(self):
        self.assert_bad(((("a", 0), ("a", True)), (("a", 2), ("b", 0))))
        self.assert_bad(((("a", False), ("a", 1)), (("a", 2), ("b", 0))))
        self.assert_bad(((("a", 0), ("a", 1)), (("a", 2), ("b", False))))

    def test_lists_in_the_place_of_tuples(self):
        self.assert_bad([(("a", 0), ("a", 1)), (("a", 2), ("b", 0))])
        self.assert_bad(([("a", 0), ("a", 1)], (("a", 2), ("b", 0))))
        self.assert_bad(((["a", 0], ("a", 1)), (("a", 2), ("b", 0))))
        self.assert_bad(((("a", 0), ["a", 1]), (("a", 2), ("b", 0))))

    def test_lengths(self):
        self.assert_bad(((("a", 0), ("a", 1)), (("a", 2), ("b", 0), ("b", 0))))
        self.assert_bad(((("a", 0), ("a", 1)), (("a", 2),)))
        self.assert_bad(((("a", 0), ("a", 1)), (("a", 2), ("b", 0, 0))))

    def test_bad_crossings_come_first(self):
        self.assertEqual((), caught(self, BadCrossings, Town, (), None).value)


class PropertiesTest(unittest.TestCase):
    def test_names(self):
        self.assertEqual(("baker", "bridge", "station", "yard"), example_town().names)
        self.assertEqual(("mid", "za"), star(1).names)

    def test_in(self):
        town = example_town()
        for name in ("baker", "bridge", "station", "yard"):
            self.assertIs(True, name in town)
        for value in any_values() + ["bread", "bake", "bakery", ("baker", 0), PLACES[0]]:
            with self.subTest(value=value):
                self.assertIs(False, value in town)

    def test_len(self):
        self.assertEqual(4, len(example_town()))
        self.assertEqual(21, len(star(20)))
        self.assertEqual(1, len(Town((("a", 2, (), ()),), LOOP)))

    def test_across(self):
        town = example_town()
        for one, other in STREETS:
            self.assertEqual(other, town[one])
            self.assertEqual(one, town[other])
        self.assertEqual(("a", 1), Town((("a", 2, (), ()),), LOOP)["a", 0])
        self.assertEqual(("a", 0), Town((("a", 2, (), ()),), LOOP)["a", 1])

    def test_across_from_no_stop(self):
        town = example_town()
        wrong = [("bridge", 3), ("bridge", -1), ("bridge", True), ("bridge", False), ("nobody", 0), ("baker", 1),
                 ("bridge", 0, 0), [("bridge", 0)], "bridge", ("bridge", "a"), (0, "bridge"), STREETS[0]]
        for value in any_values() + wrong:
            with self.subTest(value=value):
                self.assertIs(value, caught(self, NoStop, town.__getitem__, value).value)
                with self.assertRaises(NoStop) as context:
                    town[value]
                self.assertIs(value, context.exception.value)


class EqualTest(unittest.TestCase):
    def test_an_equal_town(self):
        self.assertIs(True, example_town() == example_town())
        self.assertIs(False, example_town() != example_town())

    def test_other_crossings(self):
        other = Town(PLACES[:3] + (("yard", 1, (), ("tree",)),), STREETS)
        self.assertIs(False, example_town() == other)
        self.assertIs(True, example_town() != other)

    def test_other_streets(self):
        streets = ((("baker", 0), ("bridge", 2)), (("bridge", 0), ("station", 0)), (("bridge", 1), ("yard", 0)))
        self.assertIs(False, example_town() == Town(PLACES, streets))

    def test_no_town(self):
        for value in any_values() + [(PLACES, STREETS)]:
            if isinstance(value, Town):
                continue
            with self.subTest(value=value):
                self.assertIs(False, example_town() == value)
                self.assertIs(False, value == example_town())
                self.assertIs(True, example_town() != value)

    def test_operands_that_are_not_described(self):
        one, other = example_town(), example_town()
        for call in (lambda: one < other, lambda: one >= other, lambda: one | other, lambda: one & other,
                     lambda: one + other, lambda: -one, lambda: one | example_sketch(), lambda: 1 < one):
            self.assertRaises(TypeError, call)


class MirrorTest(unittest.TestCase):
    def test_example(self):
        mirror = ~example_town()
        self.assertEqual(PLACES[:1] + (("bridge", 3, ((0, 1),), ("bridge",)),) + PLACES[2:], mirror.crossings)
        self.assertEqual(((("baker", 0), ("bridge", 2)), (("bridge", 0), ("station", 0)), (("bridge", 1), ("yard", 0))),
                         mirror.streets)

    def test_a_new_town(self):
        town = example_town()
        mirror = ~town
        self.assertIsInstance(mirror, Town)
        self.assertEqual((PLACES, STREETS), (town.crossings, town.streets))

    def test_pairs_are_ascending_again(self):
        town = Town((("a", 6, ((0, 5), (1, 3), (2, 4)), ("x", "y")),),
                    ((("a", 0), ("a", 1)), (("a", 2), ("a", 5)), (("a", 3), ("a", 4))))
        mirror = ~town
        self.assertEqual((("a", 6, ((0, 1), (2, 4), (3, 5)), ("x", "y")),), mirror.crossings)
        self.assertEqual(((("a", 0), ("a", 5)), (("a", 1), ("a", 4)), (("a", 2), ("a", 3))), mirror.streets)

    def test_blind_ends_stay(self):
        town = Town((("a", 1, (), ()), ("b", 1, (), ())), ((("a", 0), ("b", 0)),))
        self.assertEqual(town, ~town)

    def test_twice(self):
        for town in (example_town(), star(1), star(2), star(2, ((0, 1),)), star(5, ((0, 2), (1, 3))), star(20)):
            self.assertEqual(town, ~~town)

    def test_another_town(self):
        self.assertNotEqual(example_town(), ~example_town())

    def test_streets_join_the_same_ends(self):
        town = example_town()
        mirror = ~town
        ends = {name: ends for name, ends, straight, signs in PLACES}
        for name in ends:
            for end in range(ends[name]):
                other, at = town[name, end]
                self.assertEqual((other, (ends[other] - at) % ends[other]),
                                 mirror[name, (ends[name] - end) % ends[name]])


if __name__ == "__main__":
    unittest.main()
