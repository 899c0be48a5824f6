"""Promise 6: towns that hold a sketch; promise 3, (d) and (e): less facts, and the mirror."""

import unittest

from samples import FACTS, any_values, example_sketch, example_town, sketch_of, star, town_of
from sketchways.fits import fit, shows_fit

A = ("a", ("p",), (), ())
B = ("b", ("q",), (), ())


def thread(*names):
    """Crossings with two ends that go straight on to one another."""
    return [(name, 2, ((0, 1),), ()) for name in names]


def mirrored_fit(sketch, town, found):
    """This fit in the mirror."""
    ends = {row[0]: row[1] for row in town.crossings}
    rounds = []
    for row, numbers in zip(sketch.crossings, found[0]):
        many = ends[row[0]]
        rounds.append(tuple((many - number) % many for number in numbers[:1] + numbers[1:][::-1]))
    ways = [tuple((name, -one % ends[name], -other % ends[name]) for name, one, other in way) for way in found[1]]
    return tuple(rounds), tuple(ways)


class FitCase(unittest.TestCase):
    def assert_fits(self, sketch, town, fits, no_fits=()):
        """The fits are just these ones."""
        found = fit(sketch, town)
        if fits:
            self.assertIn(found, fits)
        else:
            self.assertIsNone(found)
        self.assertIs(not fits, shows_fit(sketch, town, None))
        self.assertIs(not fits, shows_fit(~sketch, ~town, None))
        self.assertIs(not fits, fit(~sketch, ~town) is None)
        for value in fits:
            with self.subTest(fit=value):
                self.assertIs(True, shows_fit(sketch, town, value))
                self.assertIs(True, shows_fit(~sketch, ~town, mirrored_fit(sketch, town, value)))
        for value in no_fits:
            with self.subTest(no_fit=value):
                self.assertIs(False, shows_fit(sketch, town, value))

    def assert_rounds(self, told, town, rounds, no_rounds=(), facts=()):
        """The rounds of the one told crossing are just these ones."""
        self.assert_fits(sketch_of([told], "", facts), town, [((row,), ()) for row in rounds],
                         [((row,), ()) for row in no_rounds])

    def assert_ways(self, town, ways, no_ways=(), facts=(), told=(A, B)):
        """The ways of the street from a to b, with one end each, are just these ones."""
        self.assert_fits(sketch_of(told, "a.p-b.q", facts), town, [(((0,), (0,)), (way,)) for way in ways],
                         [(((0,), (0,)), (way,)) for way in no_ways])


class RoundsTest(FitCase):
    def test_example(self):
        self.assertEqual((((0,), (0, 1, 2), (0,)), ((), ())), fit(example_sketch(), example_town()))
        self.assertEqual((((0,), (0, 1, 2), (0,)), ((), ())), fit(town=example_town(), sketch=example_sketch()))
        self.assert_fits(example_sketch(), example_town(), [(((0,), (0, 1, 2), (0,)), ((), ()))])
        self.assert_fits(example_sketch(FACTS), example_town(), [(((0,), (0, 1, 2), (0,)), ((), ()))])

    def test_the_name_must_be_in_the_town(self):
        self.assert_rounds(("mid", ("x",), (), ()), star(1), [(0,)])
        self.assert_rounds(("mie", ("x",), (), ()), star(1), [], [(0,), ()])
        self.assert_fits(sketch_of([("mid", ("x",), (), ()), ("za", ("y",), (), ())]), star(1), [(((0,), (0,)), ())])
        self.assert_fits(sketch_of([("mid", ("x",), (), ()), ("zb", ("y",), (), ())]), star(1), [],
                         [(((0,), (0,)), ()), (((0,),), ())])

    def test_one_end(self):
        told = ("mid", ("x",), (), ())
        self.assert_rounds(told, star(1), [(0,)], [(1,), (-1,), (0, 0), ()])
        self.assert_rounds(told, star(4), [(0,), (1,), (2,), (3,)], [(4,), (-1,)])

    def test_two_ends(self):
        told = ("mid", ("x", "y"), (), ())
        self.assert_rounds(told, star(1), [], [(0, 0), (0,)])
        self.assert_rounds(told, star(2), [(0, 1), (1, 0)], [(0, 0), (1, 1), (0, 2), (0, -1)])
        self.assert_rounds(told, star(3), [(0, 1), (1, 0), (0, 2), (2, 0), (1, 2), (2, 1)], [(2, 2), (0,), (0, 1, 2)])

    def test_clockwise(self):
        told = ("mid", ("x", "y", "z"), (), ())
        self.assert_rounds(told, star(3), [(0, 1, 2), (1, 2, 0), (2, 0, 1)],
                           [(0, 2, 1), (2, 1, 0), (1, 0, 2), (0, 0, 1), (0, 1, 0), (1, 1, 1), (0, 0, 0)])
        self.assert_rounds(told, star(4), [(0, 1, 2), (0, 1, 3), (0, 2, 3), (1, 2, 3), (1, 2, 0), (1, 3, 0), (2, 3, 0),
                                           (2, 3, 1), (2, 0, 1), (3, 0, 1), (3, 0, 2), (3, 1, 2)],
                           [(0, 2, 1), (3, 1, 0), (2, 1, 3), (0, 1, 1)])

    def test_four_ends(self):
        told = ("mid", ("w", "x", "y", "z"), (), ())
        facts = (("shut", "mid", "w"),)
        self.assert_rounds(told, star(3), [], [(0, 1, 2, 2), (0, 1, 2, 0)], facts)
        self.assert_rounds(told, star(4), [(0, 1, 2, 3), (1, 2, 3, 0), (2, 3, 0, 1), (3, 0, 1, 2)],
                           [(0, 2, 1, 3), (3, 2, 1, 0), (0, 1, 0, 1)], facts)
        self.assert_rounds(told, star(5), [(k % 5, (k + 1) % 5, (k + 2 + a) % 5, (k + 3 + b) % 5) for k in range(5)
                                           for a, b in ((0, 0), (0, 1), (1, 1))], [(0, 2, 3, 4), (1, 3, 4, 0)], facts)

    def test_ends_do_not_go_round_by_their_names(self):
        self.assert_rounds(("mid", ("z", "a", "m"), (), ()), star(3), [(0, 1, 2), (1, 2, 0), (2, 0, 1)], [(0, 2, 1)])

    def test_twenty_ends(self):
        told = ("mid", ("w", "x", "y", "z"), (("w", "y"),), ())
        town = star(20, ((3, 17),))
        facts = (("shut", "mid", "y"),)
        self.assertIs(True, shows_fit(sketch_of([told], "", facts), town, (((3, 5, 17, 18),), ())))
        self.assertIs(True, shows_fit(sketch_of([told], "", facts), town, (((17, 2, 3, 4),), ())))
        self.assertIs(False, shows_fit(sketch_of([told], "", facts), town, (((3, 5, 17, 19),), ())))
        found = fit(sketch_of([told], "", facts), town)
        self.assertIs(True, shows_fit(sketch_of([told], "", facts), town, found))
        self.assertIsNone(fit(sketch_of([told], "", facts), star(20)))

    def test_shut_gaps(self):
        told = ("mid", ("x", "y"), (), ())
        self.assert_rounds(told, star(4), [(0, 1), (1, 2), (2, 3), (3, 0)], [(0, 2), (0, 3), (1, 0)],
                           (("shut", "mid", "x"),))
        self.assert_rounds(told, star(4), [(1, 0), (2, 1), (3, 2), (0, 3)], [(0, 1)], (("shut", "mid", "y"),))
        both = (("shut", "mid", "x"), ("shut", "mid", "y"))
        self.assert_rounds(told, star(4), [], [(0, 1), (1, 0)], both)
        self.assert_rounds(told, star(2), [(0, 1), (1, 0)], [], both)

    def test_a_shut_gap_behind_the_only_told_end(self):
        told = ("mid", ("x",), (), ())
        self.assert_rounds(told, star(1), [(0,)], [], (("shut", "mid", "x"),))
        self.assert_rounds(told, star(2), [], [(0,), (1,)], (("shut", "mid", "x"),))
        self.assert_rounds(told, star(5), [], [(0,), (4,)], (("shut", "mid", "x"),))

    def test_straight_pairs(self):
        town = star(4, ((0, 2),))
        self.assert_rounds(("mid", ("x", "y"), (("x", "y"),), ()), town, [(0, 2), (2, 0)], [(0, 1), (1, 3), (3, 1)])
        # Neither may a told end go straight on to one that is not told.
        self.assert_rounds(("mid", ("x", "y"), (), ()), town, [(1, 3), (3, 1)], [(0, 2), (2, 0), (0, 1), (1, 2)])
        self.assert_rounds(("mid", ("x",), (), ()), town, [(1,), (3,)], [(0,), (2,)])
        self.assert_rounds(("mid", ("x", "y", "z"), (("x", "z"),), ()), town, [(0, 1, 2), (2, 3, 0)],
                           [(0, 2, 3), (1, 2, 3), (0, 1, 3)])
        self.assert_rounds(("mid", ("x", "y", "z"), (("x", "y"),), ()), town, [(0, 2, 3), (2, 0, 1)],
                           [(0, 1, 2), (1, 2, 3)])

    def test_straight_pairs_that_the_town_lacks(self):
        self.assert_rounds(("mid", ("x", "y"), (("x", "y"),), ()), star(2), [], [(0, 1), (1, 0)])
        self.assert_rounds(("mid", ("x", "y"), (), ()), star(2, ((0, 1),)), [], [(0, 1), (1, 0)])

    def test_two_straight_pairs(self):
        told = ("mid", ("w", "x", "y", "z"), (("w", "y"), ("x", "z")), ())
        facts = (("shut", "mid", "z"),)
        self.assert_rounds(told, star(4, ((0, 2), (1, 3))), [(0, 1, 2, 3), (1, 2, 3, 0), (2, 3, 0, 1), (3, 0, 1, 2)],
                           [(0, 3, 2, 1)], facts)
        self.assert_rounds(told, star(4, ((0, 1), (2, 3))), [], [(0, 1, 2, 3), (0, 2, 1, 3)], facts)
        self.assert_rounds(told, star(5, ((0, 2), (1, 3))), [(1, 2, 3, 0), (2, 3, 0, 1), (3, 0, 1, 2)],
                           [(0, 1, 2, 3)], facts)

    def test_straight_pairs_among_further_ends(self):
        self.assert_rounds(("mid", ("x",), (), ()), star(5, ((0, 1), (2, 3))), [(4,)], [(0,), (3,)])

    def test_ends_that_lead_off_lead_anywhere(self):
        told = [("a", ("p", "r"), (), ()), ("b", ("q", "s"), (), ())]
        shut = [("shut", "a", "p"), ("shut", "a", "r"), ("shut", "b", "q"), ("shut", "b", "s")]
        town = town_of([("a", 2, (), ()), ("b", 2, (), ())], "a0-b0 a1-b1")
        self.assert_fits(sketch_of(told, "a.p-b.q", shut), town,
                         [(((0, 1), (0, 1)), ((),)), (((1, 0), (1, 0)), ((),))],
                         [(((0, 1), (1, 0)), ((),)), (((1, 0), (0, 1)), ((),))])
        town = town_of([("a", 3, (), ()), ("b", 1, (), ())], "a0-b0 a1-a2")
        self.assert_fits(sketch_of([told[0], B], "a.p-b.q"), town, [(((0, 1), (0,)), ((),)), (((0, 2), (0,)), ((),))],
                         [(((1, 0), (0,)), ((),))])


class SignsTest(FitCase):
    def signed(self, signs, town_signs, facts=(), more=()):
        """Whether a town with these signs at its crossing, and these ones elsewhere, holds the sketch."""
        town = town_of([("mid", 1, (), town_signs), ("other", 1, (), more)], "mid0-other0")
        sketch = sketch_of([("mid", ("x",), (), signs)], "", facts)
        found = fit(sketch, town)
        value = (((0,),), ())
        self.assertIs(found is not None, shows_fit(sketch, town, value))
        self.assertIs(found is None, shows_fit(sketch, town, None))
        self.assertIn(found, (None, value))
        return found is not None

    def test_told_signs_stand_there(self):
        self.assertTrue(self.signed(("inn",), ("inn",)))
        self.assertTrue(self.signed(("inn", "oak"), ("inn", "oak")))
        self.assertFalse(self.signed(("inn",), ()))
        self.assertFalse(self.signed(("inn",), ("oak",)))
        self.assertFalse(self.signed(("inn", "oak"), ("inn",)))
        self.assertFalse(self.signed(("inn", "oak"), ("elm", "oak")))
        self.assertFalse(self.signed(("inn",), (), (), ("inn",)))

    def test_further_signs(self):
        self.assertTrue(self.signed((), ("inn",)))
        self.assertTrue(self.signed(("inn",), ("inn", "oak")))
        self.assertTrue(self.signed(("inn",), tuple("abcdefgh") + ("inn",)))
        self.assertTrue(self.signed(("inn",), ("inn",), (), ("inn",)))

    def test_full(self):
        full = (("full", "mid"),)
        self.assertTrue(self.signed(("inn",), ("inn",), full))
        self.assertTrue(self.signed((), (), full, ("inn",)))
        self.assertTrue(self.signed(("inn",), ("inn",), full, ("inn", "oak")))
        self.assertFalse(self.signed((), ("inn",), full))
        self.assertFalse(self.signed(("inn",), ("inn", "oak"), full))

    def test_only(self):
        only = (("only", "inn"),)
        self.assertTrue(self.signed(("inn",), ("inn",), only))
        self.assertTrue(self.signed(("inn",), ("inn", "oak"), only, ("oak",)))
        self.assertFalse(self.signed(("inn",), ("inn",), only, ("inn",)))
        self.assertFalse(self.signed(("inn",), ("inn",), only, ("elm", "inn")))

    def test_only_of_a_sign_that_is_told_nowhere(self):
        only = (("only", "inn"),)
        self.assertTrue(self.signed((), (), only))
        self.assertTrue(self.signed((), ("oak",), only, ("oak",)))
        self.assertFalse(self.signed((), ("inn",), only))
        self.assertFalse(self.signed((), (), only, ("inn",)))

    def test_only_at_another_told_crossing(self):
        told = [("a", ("p",), (), ("inn",)), ("b", ("q",), (), ())]
        town = town_of([("a", 1, (), ("inn",)), ("b", 1, (), ("inn",))], "a0-b0")
        self.assert_fits(sketch_of(told, "a.p-b.q"), town, [(((0,), (0,)), ((),))])
        self.assert_fits(sketch_of(told, "a.p-b.q", [("only", "inn")]), town, [], [(((0,), (0,)), ((),))])
        both = [told[0], ("b", ("q",), (), ("inn",))]
        self.assert_fits(sketch_of(both, "a.p-b.q", [("only", "inn")]), town, [(((0,), (0,)), ((),))])

    def test_only_along_a_way(self):
        town = town_of([("a", 1, (), ()), ("b", 1, (), ()), ("m", 2, ((0, 1),), ("inn",))], "a0-m0 m1-b0")
        self.assert_ways(town, [(("m", 0, 1),)])
        self.assert_ways(town, [], [(("m", 0, 1),)], [("only", "inn")])
        self.assert_ways(town, [(("m", 0, 1),)], [], [("only", "oak")])


class WaysTest(FitCase):
    def test_no_further_crossing(self):
        self.assert_ways(town_of([("a", 1, (), ()), ("b", 1, (), ())], "a0-b0"), [()], [(("a", 0, 0),)])

    def test_another_street(self):
        self.assert_ways(town_of([("a", 1, (), ()), ("b", 1, (), ())]), [], [()])
        self.assert_ways(town_of([("a", 1, (), ()), ("b", 1, (), ()), *thread("m", "n")], "a0-m0 b0-n0"), [],
                         [(), (("m", 0, 1),), (("m", 0, 1), ("n", 1, 0))])

    def test_from_side_to_side(self):
        town = town_of([("a", 1, (), ()), ("b", 1, (), ()), *thread("n", "m")], "a0-n1 n0-m0 m1-b0")
        self.assert_ways(town, [(("n", 1, 0), ("m", 0, 1))],
                         [(), (("n", 1, 0),), (("m", 0, 1), ("n", 1, 0)), (("m", 1, 0), ("n", 0, 1)),
                          (("n", 0, 1), ("m", 0, 1)), (("n", 1, 0), ("m", 1, 0)),
                          (("n", 1, 0), ("m", 0, 1), ("n", 1, 0))])

    def test_clear(self):
        clear = [("clear", "a", "p")]
        direct = town_of([("a", 1, (), ()), ("b", 1, (), ())], "a0-b0")
        self.assert_ways(direct, [()], [], clear)
        self.assert_ways(town_of([("a", 1, (), ()), ("b", 1, (), ()), *thread("m")], "a0-m0 m1-b0"), [],
                         [(), (("m", 0, 1),)], clear)

    def test_clear_of_another_street(self):
        told = [("a", ("p",), (), ()), ("b", ("q", "r"), (("q", "r"),), ()), ("c", ("s",), (), ())]
        town = town_of([("a", 1, (), ()), ("b", 2, ((0, 1),), ()), ("c", 1, (), ()), *thread("m")], "a0-m0 m1-b0 b1-c0")
        fits = [(((0,), (0, 1), (0,)), ((("m", 0, 1),), ()))]
        self.assert_fits(sketch_of(told, "a.p-b.q b.r-c.s", [("clear", "b", "r")]), town, fits)
        self.assert_fits(sketch_of(told, "a.p-b.q b.r-c.s", [("clear", "a", "p")]), town, [], fits)

    def test_a_further_crossing_where_nothing_goes_straight_on(self):
        self.assert_ways(town_of([("a", 1, (), ()), ("b", 1, (), ()), ("m", 2, (), ())], "a0-m0 m1-b0"), [],
                         [(), (("m", 0, 1),)])
        self.assert_ways(town_of([("a", 1, (), ()), ("b", 1, (), ()), ("m", 3, ((1, 2),), ())], "a0-m0 m1-b0"), [],
                         [(("m", 0, 1),)])

    def test_a_further_crossing_with_more_ends_and_signs(self):
        town = town_of([("a", 1, (), ()), ("b", 1, (), ()), ("m", 5, ((1, 4), (2, 3)), ("inn",))], "a0-m4 m1-b0")
        self.assert_ways(town, [(("m", 4, 1),)], [(("m", 1, 4),), (("m", 4, 2),)])

    def test_no_way_through_a_told_crossing(self):
        told = [A, B, ("c", ("x", "y"), (("x", "y"),), ())]
        town = town_of([("a", 1, (), ()), ("b", 1, (), ()), ("c", 2, ((0, 1),), ())], "a0-c0 c1-b0")
        self.assert_fits(sketch_of(told, "a.p-b.q"), town, [],
                         [(((0,), (0,), (0, 1)), ((("c", 0, 1),),)), (((0,), (0,), (1, 0)), ((("c", 0, 1),),))])
        self.assert_ways(town, [(("c", 0, 1),)])

    def test_a_crossing_that_is_passed_twice(self):
        town = town_of([("a", 1, (), ()), ("b", 1, (), ()), ("m", 4, ((0, 2), (1, 3)), ())], "a0-m0 m2-m1 m3-b0")
        self.assert_ways(town, [], [(("m", 0, 2), ("m", 1, 3)), (("m", 0, 2),)])

    def test_a_crossing_that_is_passed_by_two_streets(self):
        told = [A, B, ("c", ("x",), (), ()), ("d", ("y",), (), ())]
        town = town_of([(name, 1, (), ()) for name in "abcd"] + [("m", 4, ((0, 2), (1, 3)), ())],
                       "a0-m0 m2-b0 c0-m1 m3-d0")
        self.assert_fits(sketch_of(told, "a.p-b.q c.x-d.y"), town, [],
                         [(((0,),) * 4, ((("m", 0, 2),), (("m", 1, 3),)))])
        self.assert_fits(sketch_of(told, "a.p-b.q"), town, [(((0,),) * 4, ((("m", 0, 2),),))])

    def test_a_street_between_ends_of_one_crossing(self):
        told = ("a", ("p", "q"), (), ())
        town = town_of([("a", 3, (), ()), *thread("m")], "a0-m0 m1-a2")
        self.assert_fits(sketch_of([told], "a.p-a.q"), town,
                         [(((0, 2),), ((("m", 0, 1),),)), (((2, 0),), ((("m", 1, 0),),))],
                         [(((0, 1),), ((("m", 0, 1),),)), (((0, 2),), ((("m", 1, 0),),)), (((0, 2),), ((),))])
        self.assert_fits(sketch_of([told], "a.p-a.q", [("shut", "a", "p")]), town, [(((2, 0),), ((("m", 1, 0),),))])

    def test_the_other_side_is_the_told_end(self):
        told = [("a", ("p",), (), ()), ("b", ("q", "r"), (("q", "r"),), ())]
        town = town_of([("a", 1, (), ()), ("b", 2, ((0, 1),), ())], "a0-b1")
        self.assert_fits(sketch_of(told, "a.p-b.q"), town, [(((0,), (1, 0)), ((),))], [(((0,), (0, 1)), ((),))])

    def test_side_0_is_the_first_stop(self):
        told = [("a", ("z",), (), ()), ("b", ("a",), (), ())]
        town = town_of([("a", 1, (), ()), ("b", 1, (), ()), *thread("m", "n")], "b0-n0 n1-m0 m1-a0")
        self.assert_fits(sketch_of(told, "b.a-a.z"), town, [(((0,), (0,)), ((("m", 1, 0), ("n", 1, 0)),))],
                         [(((0,), (0,)), ((("n", 0, 1), ("m", 0, 1)),))])

    def test_one_of_several_lines(self):
        told = [("a", ("p", "r"), (), ()), ("b", ("q",), (), ()), ("c", ("s",), (), ())]
        town = town_of([("a", 4, (), ()), ("b", 2, (), ()), ("c", 2, (), ())], "a0-c0 a1-b1 a2-b0 a3-c1")
        pairs = [(1, 1, 0, 0), (1, 1, 3, 1), (2, 0, 0, 0), (2, 0, 3, 1)]
        fits = [(((one, two), (q,), (s,)), ((), ())) for one, q, two, s in pairs]
        self.assert_fits(sketch_of(told, "a.p-b.q a.r-c.s"), town, fits)
        self.assert_fits(sketch_of(told, "a.p-b.q a.r-c.s", [("shut", "a", "p")]), town, [fits[3]], fits[:3])
        self.assert_fits(sketch_of(told, "a.p-b.q a.r-c.s", [("shut", "a", "r")]), town, [fits[0]], fits[1:])

    def test_later_streets_decide_on_earlier_ones(self):
        # Of the two lines from a to b the shorter one shares m with the only line from c to d.
        told = [A, B, ("c", ("x",), (), ()), ("d", ("y",), (), ())]
        rows = [("a", 2, (), ()), ("b", 2, (), ()), ("c", 1, (), ()), ("d", 1, (), ()), ("m", 4, ((0, 2), (1, 3)), ()),
                *thread("n", "o")]
        town = town_of(rows, "a0-m0 m2-b0 a1-n0 n1-o0 o1-b1 c0-m1 m3-d0")
        self.assert_fits(sketch_of(told, "a.p-b.q c.x-d.y"), town,
                         [(((1,), (1,), (0,), (0,)), ((("n", 0, 1), ("o", 0, 1)), (("m", 1, 3),)))],
                         [(((0,), (0,), (0,), (0,)), ((("m", 0, 2),), (("m", 1, 3),)))])

    def test_seven_streets(self):
        ends = ("p", "q", "r", "s")
        told = [(name, ends, (), ()) for name in "abcd"]
        words = "a.p-b.p a.q-b.s a.r-c.q a.s-d.p b.q-c.p b.r-d.q c.r-d.s"
        shut = [("shut", name, "p") for name in "abcd"]
        numbers = {end: number for number, end in enumerate(ends)}
        pairs = [["".join((word[0], str(numbers[word[2]]))) for word in pair.split("-")] for pair in words.split()]
        streets = " ".join("-".join(pair) for pair in pairs)
        town = town_of([(name, 4, (), ()) for name in "abcd"], streets)
        sketch = sketch_of(told, words, shut)
        self.assertEqual(7, len(sketch.streets))
        self.assert_fits(sketch, town, [(((0, 1, 2, 3),) * 4, ((),) * 7)], [(((1, 2, 3, 0),) * 4, ((),) * 7)])

    def test_a_long_way(self):
        names = [one + other for one in "abcdefghijklmnopqr" for other in "abcdefghijklmnopqrstu"]
        passed = thread(*names)
        streets = ["a0-" + names[0] + "0"] + [f"{one}1-{other}0" for one, other in zip(names, names[1:])]
        town = town_of([("a", 1, (), ()), ("b", 1, (), ()), *passed], " ".join(streets + [names[-1] + "1-b0"]))
        self.assert_ways(town, [tuple((name, 0, 1) for name in names)])


class ShowsFitTest(FitCase):
    def test_no_fit_values(self):
        good = fit(example_sketch(), example_town())
        rounds, ways = good
        for value in any_values():
            for wrong in (value, (value, ways), (rounds, value), ((value,) + rounds[1:], ways),
                          (rounds, (value,) + ways[1:]), (((value,),) + rounds[1:], ways), (rounds, ((value,), ()))):
                if wrong in (None, good) and not self.holds_bool(wrong):
                    continue
                with self.subTest(value=wrong):
                    self.assertIs(False, shows_fit(example_sketch(), example_town(), wrong))
        self.assertIs(False, shows_fit(example_sketch(), example_town(), None))
        self.assertIs(True, shows_fit(value=good, sketch=example_sketch(), town=example_town()))

    def holds_bool(self, value):
        if isinstance(value, tuple):
            return any(self.holds_bool(part) for part in value)
        return isinstance(value, bool)

    def test_forms(self):
        rounds, ways = ((0,), (0, 1, 2), (0,)), ((), ())
        for value in ((rounds,), (rounds, ways, ()), [rounds, ways], (list(rounds), ways), (rounds, list(ways)),
                      (rounds[:2], ways), (rounds + ((0,),), ways), (rounds, ()), (rounds, ((),)),
                      (rounds, ((), (), ())),
                      (((0,), [0, 1, 2], (0,)), ways), (((0,), (0, 1), (0,)), ways), (((0,), (0, 1, 2, 0), (0,)), ways),
                      (((0,), (False, True, 2), (0,)), ways), (((False,), (0, 1, 2), (0,)), ways),
                      (((0,), ("0", 1, 2), (0,)), ways), (((0,), (0, 1, 2), 0), ways), (rounds, ((), [])),
                      (rounds, ((("yard", 0, 0),), ())), (ways, rounds), (((0,), (2, 1, 0), (0,)), ways)):
            with self.subTest(value=value):
                self.assertIs(False, shows_fit(example_sketch(), example_town(), value))
        self.assertIs(True, shows_fit(example_sketch(), example_town(), (rounds, ways)))

    def test_forms_of_ways(self):
        town = town_of([("a", 1, (), ()), ("b", 1, (), ()), *thread("m")], "a0-m0 m1-b0")
        sketch = sketch_of([A, B], "a.p-b.q")
        rounds = ((0,), (0,))
        self.assertIs(True, shows_fit(sketch, town, (rounds, ((("m", 0, 1),),))))
        for way in ((("m", 0, True),), (("m", False, 1),), (["m", 0, 1],), [("m", 0, 1)], (("m", 0),),
                    (("m", 0, 1, 0),),
                    ("m", 0, 1), (("n", 0, 1),), (("m", "0", "1"),), (("m", 1, 0),), (("m", 0, 1), ("m", 0, 1)), (),
                    None):
            with self.subTest(way=way):
                self.assertIs(False, shows_fit(sketch, town, (rounds, (way,))))

    def test_none(self):
        self.assertIs(True, shows_fit(example_sketch(), star(3), None))
        self.assertIs(False, shows_fit(example_sketch(), star(3), (((0,), (0, 1, 2), (0,)), ((), ()))))
        for value in any_values():
            if value is not None:
                self.assertIs(False, shows_fit(example_sketch(), star(3), value))

    def test_nothing_is_changed(self):
        sketch, town = example_sketch(FACTS), example_town()
        fit(sketch, town)
        shows_fit(sketch, town, None)
        self.assertTrue(sketch == example_sketch(FACTS) and town == example_town())
        self.assertEqual(fit(sketch, town), fit(sketch, town))


class FactsTest(FitCase):
    def test_a_fit_by_more_facts_is_one_by_less(self):
        sketch, town = example_sketch(), example_town()
        found = fit(sketch, town)
        for fact in sketch.tellable():
            more = example_sketch()
            more.tell(fact)
            self.assertEqual(found, fit(more, town))
            sketch.tell(fact)
            self.assertEqual(found, fit(sketch, town))

    def test_each_fact_keeps_some_town_away(self):
        further = town_of([("baker", 2, (), ("bread", "inn")), ("bridge", 6, ((0, 4),), ("bridge", "inn")),
                           ("station", 2, (), ("inn",)), ("m", 2, ((0, 1),), ("bridge",)),
                           ("n", 2, ((0, 1),), ("bread",))],
                          "baker0-m0 m1-bridge2 bridge0-n0 n1-station0")
        self.assertIsNotNone(fit(example_sketch(), further))
        for fact in example_sketch().tellable():
            more = example_sketch()
            more.tell(fact)
            with self.subTest(fact=fact):
                self.assertIsNone(fit(more, further))


if __name__ == "__main__":
    unittest.main()
