"""Promise 15: towns and sketches as texts."""

import unittest

from samples import (FACTS, PLACES, STREETS, TOLD, WAYS, any_values, caught, example_sketch, example_town, sketch_of,
                     star,
                     town_of)
from sketchways.errors import BadCrossings, BadFacts, BadStreets, BadText
from sketchways.sketches import Sketch
from sketchways.texts import read_sketch, read_town, show_sketch, show_town
from sketchways.towns import Town

TOWN = """\
crossing baker 1 - bread
crossing bridge 3 0-2 bridge
crossing station 1 - -
crossing yard 1 - -
street baker 0 bridge 1
street bridge 0 station 0
street bridge 2 yard 0"""
SKETCH = """\
crossing baker p - bread
crossing bridge a,b,c a-c bridge
crossing station s - -
street baker p bridge b
street bridge a station s
clear baker p
only bridge
shut bridge a"""


def with_line(text, number, line):
    """This text with another line in the place of this one."""
    rows = text.split("\n")
    rows[number] = line
    return "\n".join(rows)


class ReadCase(unittest.TestCase):
    def assert_bad_text(self, read, text, value):
        with self.subTest(text=text):
            self.assertEqual(value, caught(self, BadText, read, text).value)
            self.assertIs(int, caught(self, BadText, read, text).value.__class__)

    def assert_raises(self, error, read, text, value):
        with self.subTest(text=text):
            self.assertEqual(value, caught(self, error, read, text).value)


class ShowTest(unittest.TestCase):
    def test_towns(self):
        self.assertEqual(TOWN, show_town(example_town()))
        self.assertEqual(TOWN, show_town(town=example_town()))
        town = town_of([("a", 4, ((0, 2), (1, 3)), ("elm", "inn", "oak")), ("b", 1, (), ())], "a0-a1 a3-b0")
        self.assertEqual("crossing a 4 0-2,1-3 elm,inn,oak\ncrossing b 1 - -\ncrossing zzaa 1 - -\n"
                         "street a 0 a 1\nstreet a 2 zzaa 0\nstreet a 3 b 0", show_town(town))
        self.assertEqual("crossing mid 12 3-11,4-10 -", show_town(star(12, ((3, 11), (4, 10)))).split("\n")[0])
        self.assertEqual("street mid 11 zl 0", show_town(star(12)).split("\n")[-1])

    def test_sketches(self):
        self.assertEqual(SKETCH, show_sketch(example_sketch(FACTS)))
        self.assertEqual(SKETCH, show_sketch(sketch=example_sketch(FACTS)))
        self.assertEqual("crossing a p - -", show_sketch(sketch_of([("a", ("p",), (), ())])))
        sketch = sketch_of([("a", ("s", "r", "q", "p"), (("p", "q"), ("r", "s")), ("elm", "oak"))], "a.p-a.s",
                           [("full", "a"), ("only", "zoo"), ("shut", "a", "r"), ("shut", "a", "s"), ("only", "inn")])
        self.assertEqual("crossing a s,r,q,p p-q,r-s elm,oak\nstreet a p a s\n"
                         "full a\nonly inn\nonly zoo\nshut a r\nshut a s", show_sketch(sketch))

    def test_facts_as_they_are_now(self):
        sketch = example_sketch(FACTS)
        sketch.tell(("full", "baker"))
        sketch.forget(("only", "bridge"))
        self.assertEqual(["clear baker p", "full baker", "shut bridge a"], show_sketch(sketch).split("\n")[5:])


class ReadTest(ReadCase):
    def test_read_back(self):
        town = read_town(TOWN)
        self.assertEqual((Town, PLACES, STREETS), (town.__class__, town.crossings, town.streets))
        sketch = read_sketch(SKETCH)
        self.assertEqual((Sketch, TOLD, WAYS, FACTS), (sketch.__class__, sketch.crossings, sketch.streets,
                                                       sketch.facts))
        self.assertTrue(read_town(text=TOWN) == example_town() and read_sketch(text=SKETCH) == example_sketch(FACTS))

    def test_what_is_shown_is_read_back(self):
        for town in (example_town(), ~example_town(), star(20, ((0, 19), (2, 5)), ("a", "b")), star(1),
                     town_of([("abcdefgh", 4, ((0, 2), (1, 3)), ("elm", "inn", "oak")), ("b", 2, (), ())],
                             "abcdefgh0-abcdefgh1 abcdefgh3-b0")):
            self.assertTrue(town == read_town(show_town(town)))
            self.assertEqual(show_town(town), show_town(read_town(show_town(town))))
        sketch = sketch_of([("a", ("s", "r", "q", "p"), (("p", "q"), ("r", "s")), ("elm", "oak")),
                            ("b", ("abcdefgh",), (), ())],
                           "a.p-a.s a.q-b.abcdefgh", [("full", "a"), ("only", "zoo"), ("shut", "a", "r"),
                                                      ("only", "inn")])
        for other in (sketch, ~sketch, example_sketch(), example_sketch(FACTS), sketch_of([("a", ("p",), (), ())])):
            self.assertTrue(other == read_sketch(show_sketch(other)))

    def test_no_strings(self):
        for value in any_values():
            if not isinstance(value, str):
                self.assert_bad_text(read_town, value, -1)
                self.assert_bad_text(read_sketch, value, -1)

    def test_strings(self):
        for value in any_values() + [" ", "\n", "-", "crossing", "street"]:
            if isinstance(value, str):
                self.assert_bad_text(read_town, value, 0)
                self.assert_bad_text(read_sketch, value, 0)

    def test_blanks_and_line_feeds(self):
        for read, text in ((read_town, TOWN), (read_sketch, SKETCH)):
            rows = text.split("\n")
            self.assert_bad_text(read, text + "\n", len(rows))
            self.assert_bad_text(read, "\n" + text, 0)
            for number, line in enumerate(rows):
                for other in (line + " ", " " + line, line.replace(" ", "  ", 1), line.replace(" ", "", 1), line + " -",
                              line.rsplit(" ", 1)[0], line.upper(), line.capitalize(), "", " ", line + ",", line + "-"):
                    self.assert_bad_text(read, with_line(text, number, other), number)
                self.assert_bad_text(read, with_line(text, number, "\n" + line), number)

    def test_words_of_towns(self):
        for number, lines in ((1, ("crossing Bridge 3 0-2 bridge", "crossing abcdefghi 3 0-2 bridge",
                                   "crossing b1 3 0-2 bridge",
                                   "crossing - 3 0-2 bridge", "crossing a,b 3 0-2 bridge",
                                   "crossing bridge - 0-2 bridge",
                                   "crossing bridge a 0-2 bridge", "crossing bridge 03 0-2 bridge",
                                   "crossing bridge 3, 0-2 bridge",
                                   "crossing bridge +3 0-2 bridge", "crossing bridge -3 0-2 bridge",
                                   "crossing bridge 3.0 0-2 bridge",
                                   "crossing bridge 3_0 0-2 bridge", "crossing bridge a,b,c a-c bridge",
                                   "crossing bridge 3 02 bridge",
                                   "crossing bridge 3 0-02 bridge", "crossing bridge 3 00-2 bridge",
                                   "crossing bridge 3 0-2, bridge",
                                   "crossing bridge 3 ,0-2 bridge", "crossing bridge 3 0-1-2 bridge",
                                   "crossing bridge 3 0- bridge",
                                   "crossing bridge 3 -2 bridge", "crossing bridge 3 -- bridge",
                                   "crossing bridge 3 0-a bridge",
                                   "crossing bridge 3 0-2,- bridge", "crossing bridge 3 0-2,,1-2 bridge",
                                   "crossing bridge 3 0-2 Inn",
                                   "crossing bridge 3 0-2 abcdefghi", "crossing bridge 3 0-2 inn,",
                                   "crossing bridge 3 0-2 ,inn",
                                   "crossing bridge 3 0-2 inn,-", "crossing bridge 3 0-2 inn,,oak",
                                   "crossing bridge 3 0-2 0",
                                   "crossing bridge 3 0-2", "crossing bridge 3 0-2 bridge inn",
                                   "cross bridge 3 0-2 bridge")),
                              (5, ("street bridge 0 station", "street bridge 0 station 0 0",
                                   "street bridge a station 0",
                                   "street bridge 00 station 0", "street bridge 0 station 00",
                                   "street bridge 0 Station 0",
                                   "street Bridge 0 station 0", "street bridge -1 station 0",
                                   "street bridge - station 0",
                                   "street bridge 0 station s", "street bridge 0-station 0",
                                   "street bridge,0 station,0",
                                   "streets bridge 0 station 0", "clear bridge 0", "only bridge", "full bridge",
                                   "shut bridge 0",
                                   "street 0 bridge 0 station"))):
            for line in lines:
                self.assert_bad_text(read_town, with_line(TOWN, number, line), number)

    def test_words_of_sketches(self):
        for number, lines in ((1, ("crossing Bridge a,b,c a-c bridge", "crossing abcdefghi a,b,c a-c bridge",
                                   "crossing bridge - a-c bridge", "crossing bridge 3 a-c bridge",
                                   "crossing bridge a,b,C a-c bridge",
                                   "crossing bridge a,b, a-c bridge", "crossing bridge ,a,b a-c bridge",
                                   "crossing bridge a,-,c a-c bridge", "crossing bridge a,b,c a-c- bridge",
                                   "crossing bridge a,b,c ac bridge", "crossing bridge a,b,c a-0 bridge",
                                   "crossing bridge a,b,c a-c, bridge", "crossing bridge a,b,c a-b-c bridge",
                                   "crossing bridge a,b,c -c bridge", "crossing bridge a,b,c a-c bridge,",
                                   "crossing bridge a,b,c a-c bridge,-", "crossing bridge a,b,c a-c 1",
                                   "crossing bridge 3 0-2 bridge",
                                   "crossing bridge a,b,c a-c", "crossing bridge a b c a-c bridge",
                                   "crossing bridge a,b,c a-c a b")),
                              (4, ("street bridge a station", "street bridge 0 station s", "street bridge a station 0",
                                   "street bridge a,b station s", "street bridge - station s",
                                   "street bridge a station s s",
                                   "street bridge a Station s", "street - a station s")),
                              (5, ("clear baker", "clear baker p p", "clear baker -", "clear - p", "clear baker 0",
                                   "clear Baker p",
                                   "clear baker,p")),
                              (6, ("only", "only bridge inn", "only -", "only bridge,inn", "only 1", "only Bridge",
                                   "full", "full -",
                                   "full baker p", "full baker,bridge", "clears baker", "- bridge")),
                              (7, ("shut bridge", "shut bridge a b", "shut bridge 0", "shut bridge a,b", "shut - a",
                                   "start bridge a"))):
            for line in lines:
                self.assert_bad_text(read_sketch, with_line(SKETCH, number, line), number)

    def test_lines_of_an_earlier_group(self):
        for read, text, many in ((read_town, TOWN, 7), (read_sketch, SKETCH, 8)):
            rows = text.split("\n")
            self.assert_bad_text(read, text + "\n" + rows[0], many)
            self.assert_bad_text(read, "\n".join([rows[many - 1]] + rows[:-1]), 1)
        rows = SKETCH.split("\n")
        self.assert_bad_text(read_sketch, SKETCH + "\n" + rows[3], 8)
        self.assert_bad_text(read_sketch, "\n".join(rows[:3] + rows[5:] + rows[3:5]), 6)
        self.assert_bad_text(read_sketch, "\n".join(rows[:3] + rows[5:6] + rows[3:]), 4)
        # The first line that is wrong, in whatever way.
        self.assert_bad_text(read_sketch, "\n".join(rows[:3] + rows[5:6] + rows[3:4] + [""]), 4)
        self.assert_bad_text(read_sketch, "\n".join(rows[:2] + [""] + rows[5:6] + rows[3:4]), 2)

    def test_what_is_wrong_for_towns(self):
        bare = lambda name, ends=1: (name, ends, (), ())
        for line, row in (("crossing bridge 0 - bridge", ("bridge", 0, (), ("bridge",))),
                          ("crossing bridge 21 - -", bare("bridge", 21)),
                          ("crossing bridge 3 2-0 -", ("bridge", 3, ((2, 0),), ())),
                          ("crossing bridge 3 0-3 -", ("bridge", 3, ((0, 3),), ())),
                          ("crossing bridge 3 0-0 -", ("bridge", 3, ((0, 0),), ())),
                          ("crossing bridge 3 0-2,1-2 -", ("bridge", 3, ((0, 2), (1, 2)), ())),
                          ("crossing bridge 3 0-2 oak,inn", ("bridge", 3, ((0, 2),), ("oak", "inn"))),
                          ("crossing bridge 3 0-2 inn,inn", ("bridge", 3, ((0, 2),), ("inn", "inn"))),
                          ("crossing baker 3 - -", bare("baker", 3)), ("crossing aa 3 - -", bare("aa", 3))):
            self.assert_raises(BadCrossings, read_town, with_line(TOWN, 1, line), (PLACES[0], row, *PLACES[2:]))
        self.assert_raises(BadCrossings, read_town, "street baker 0 bridge 1", ())
        self.assert_raises(BadStreets, read_town, "crossing baker 1 - -", ())
        for line, row in (("street bridge 0 station 1", (("bridge", 0), ("station", 1))), ("street station 0 bridge 0",
                                                                                          (("station", 0),
                                                                                           ("bridge", 0))),
                          ("street bridge 1 station 0", (("bridge", 1), ("station", 0))),
                          ("street bridge 0 inn 0", (("bridge", 0), ("inn", 0)))):
            self.assert_raises(BadStreets, read_town, with_line(TOWN, 5, line), (STREETS[0], row, STREETS[2]))
        rows = TOWN.split("\n")
        self.assert_raises(BadStreets, read_town, "\n".join(rows[:-1]), STREETS[:2])
        self.assert_raises(BadStreets, read_town, "\n".join(rows[:4] + rows[5:] + rows[4:5]), STREETS[1:] + STREETS[:1])
        self.assert_raises(BadCrossings, read_town, "\n".join(rows[1::-1] + rows[2:]), PLACES[1::-1] + PLACES[2:])
        self.assert_raises(BadStreets, read_town, TOWN + "\n" + rows[-1], STREETS + STREETS[2:])
        # Forms are asked ahead of what they say.
        self.assert_bad_text(read_town, with_line(TOWN, 0, "crossing baker 0 - -") + "\n", 7)

    def test_what_is_wrong_for_sketches(self):
        for line, row in (("crossing bridge a,b,a - -", ("bridge", ("a", "b", "a"), (), ())),
                          ("crossing bridge a,b,c,d,e - -", ("bridge", ("a", "b", "c", "d", "e"), (), ())),
                          ("crossing bridge a,b,c c-a -", ("bridge", ("a", "b", "c"), (("c", "a"),), ())),
                          ("crossing bridge a,b,c a-d -", ("bridge", ("a", "b", "c"), (("a", "d"),), ())),
                          ("crossing bridge a,b,c - a,b,c,d,e",
                           ("bridge", ("a", "b", "c"), (), ("a", "b", "c", "d", "e")))):
            self.assert_raises(BadCrossings, read_sketch, with_line(SKETCH, 1, line), (TOLD[0], row, TOLD[2]))
        self.assert_raises(BadCrossings, read_sketch, "only inn", ())
        self.assert_raises(BadStreets, read_sketch, with_line(SKETCH, 4, "street bridge d station s"),
                           (WAYS[0], (("bridge", "d"), ("station", "s"))))
        self.assert_raises(BadStreets, read_sketch, with_line(SKETCH, 4, "street station s bridge a"),
                           (WAYS[0], (("station", "s"), ("bridge", "a"))))
        rows = SKETCH.split("\n")
        self.assert_raises(BadFacts, read_sketch, "\n".join(rows[:6] + rows[7:] + rows[6:7]),
                           (FACTS[0], FACTS[2], FACTS[1]))
        self.assert_raises(BadFacts, read_sketch, with_line(SKETCH, 5, "clear bridge b"),
                           (("clear", "bridge", "b"), *FACTS[1:]))
        self.assert_raises(BadFacts, read_sketch, with_line(SKETCH, 7, "shut bridge d"),
                           (*FACTS[:2], ("shut", "bridge", "d")))
        self.assert_raises(BadFacts, read_sketch, SKETCH + "\n" + rows[-1], FACTS + FACTS[2:])
        self.assert_raises(BadFacts, read_sketch, "crossing a p,q,r,s - -", ())


if __name__ == "__main__":
    unittest.main()
