"""Promise 7: the texts of directions, and the properties."""

import unittest

from samples import TEXT, any_values, caught, example_directions, example_sketch, example_town
from sketchways.directions import Directions
from sketchways.errors import BadText, TooMany

CONDITIONS = ("sign bridge", "sign a", "sign abcdefgh", "on", "left", "right", "ends 1", "ends 2", "ends 3", "ends 4",
              "sign on", "sign left", "sign not", "sign sign", "sign ends", "sign here")
NO_CONDITIONS = ("", "sign", "sign a b", "sign A", "sign 1", "sign abcdefghi", "sign a1", "on 1", "on on", "left 1",
                 "right 2", "ends", "ends 0", "ends 5", "ends 01", "ends 10", "ends -1", "ends +1", "ends a", "end 1",
                 "not", "back", "here", "go on", "ON", "On", "not on on", "on not", "sign  a", " on", "on ",
                 "sign not a",
                 "ends 1 2", "ends four", "name a", "or on")


def lines(*rows):
    return "\n".join(rows)


class TextTest(unittest.TestCase):
    def assert_taken(self, text):
        with self.subTest(text=text):
            directions = Directions(text)
            self.assertEqual(text, directions.text)

    def test_go_lines(self):
        for words in ("on", "back", "left 1", "left 2", "left 3", "right 1", "right 2", "right 3"):
            self.assert_taken("go " + words)

    def test_here(self):
        self.assert_taken("here")
        self.assert_taken("here\nhere")
        self.assert_taken("here\ngo on")

    def test_conditions(self):
        for head in ("if", "until", "while"):
            for condition in CONDITIONS:
                self.assert_taken(f"{head} {condition}\n  here")
                self.assert_taken(f"{head} not {condition}\n  here")

    def test_agains(self):
        self.assert_taken("again 2\n  go on")
        self.assert_taken("again 3\n  here")

    def test_elses(self):
        self.assert_taken(lines("if on", "  here", "else", "  go on"))
        self.assert_taken(lines("if on", "  here", "else", "  go on", "go back"))
        self.assert_taken(lines("if on", "  if left", "    here", "else", "  here"))
        self.assert_taken(lines("if on", "  if left", "    here", "  else", "    here", "else", "  here"))
        self.assert_taken(lines("if on", "  here", "else", "  if left", "    here", "  else", "    go on"))
        self.assert_taken(lines("if on", "  while left", "    here", "else", "  here"))
        self.assert_taken(lines("again 2", "  if on", "    here", "  else", "    here", "here"))
        self.assert_taken(lines("if on", "  here", "else", "  here", "if on", "  here", "else", "  here"))

    def test_three_heads(self):
        self.assert_taken(lines("if on", "  until left", "    while right", "      go on", "here"))
        self.assert_taken(lines("again 2", "  if on", "    here", "  else", "    again 2", "      go on", "  go on"))
        self.assert_taken(lines("if on", "  here", "else", "  if on", "    here", "  else", "    if on", "      here",
                                "    else", "      here"))

    def test_lines_that_are_less_deep_by_several_steps(self):
        self.assert_taken(lines("if on", "  until left", "    while right", "      go on", "  here"))
        self.assert_taken(lines("if on", "  until left", "    while right", "      go on", "else", "  here"))

    def test_twenty_lines(self):
        self.assert_taken("\n".join(["here"] * 20))
        self.assert_taken("\n".join(["if on\n  here"] * 10))

    def test_example(self):
        self.assert_taken(TEXT)
        self.assertEqual(TEXT, Directions(text=TEXT).text)


class BadTextTest(unittest.TestCase):
    def assert_bad(self, text, number):
        with self.subTest(text=text):
            self.assertEqual(number, caught(self, BadText, Directions, text).value)

    def test_any_values(self):
        for value in any_values():
            if not isinstance(value, str):
                self.assert_bad(value, -1)
                self.assertIs(int, type(caught(self, BadText, Directions, text=value).value))
        for value in ("", "A", "two words", "bridge "):
            self.assert_bad(value, 0)

    def test_lines_of_no_form(self):
        for line in ("", " ", "  ", "go", "go on 1", "go back 1", "go left", "go right", "go left 0", "go left 4",
                     "go right 0", "go right 4", "go left 01", "go left 10", "go left -1", "go left a", "go left 1 2",
                     "go up", "go here", "go On", "GO on", "here here", "here 1", "Here", "there", "again", "again 0",
                     "again 1", "again 4", "again 02", "again 2 2", "again two", "again on", "go  on", "go on ",
                     "else 1", "else on", "else if", "if", "until", "while", "on", "left 1", "back", "ends 1", "sign a",
                     "else:", "here.", "#", "go,on", "elif on", "not on", "-", "go left +1"):
            self.assert_bad(line, 0)
            self.assert_bad("here\n" + line, 1)
            self.assert_bad("here\nhere\n" + line + "\nhere", 2)
            self.assert_bad("if on\n  " + line, 1)

    def test_no_conditions(self):
        for head in ("if", "until", "while"):
            for condition in NO_CONDITIONS:
                self.assert_bad(f"{head} {condition}\n  here", 0)
                self.assert_bad(f"{head} not {condition}\n  here", 0)
                self.assert_bad(f"go on\n{head} {condition}\n  here", 1)
            self.assert_bad(f"{head} not not on\n  here", 0)
            self.assert_bad(f"{head}\n  here", 0)

    def test_the_empty_string_is_one_line(self):
        self.assert_bad("", 0)

    def test_a_line_feed_at_the_end(self):
        self.assert_bad("here\n", 1)
        self.assert_bad("\nhere", 0)
        self.assert_bad("here\n\nhere", 1)

    def test_a_first_line_with_blanks_ahead(self):
        for blanks in (" ", "  ", "   ", "    "):
            self.assert_bad(blanks + "here", 0)

    def test_odd_blanks(self):
        self.assert_bad("if on\n here", 1)
        self.assert_bad("if on\n   here", 1)
        self.assert_bad("if on\n  here\n here", 2)
        self.assert_bad("if on\n  if on\n     here", 2)

    def test_a_line_deeper_than_one_that_is_no_head(self):
        self.assert_bad("here\n  here", 1)
        self.assert_bad("go on\n  here", 1)
        self.assert_bad("if on\n  here\n    here", 2)
        self.assert_bad("if on\n  go on\n    go on\nhere", 2)

    def test_a_line_more_than_one_step_deeper(self):
        self.assert_bad("if on\n    here", 1)
        self.assert_bad("again 2\n      here", 1)
        self.assert_bad("if on\n  here\nelse\n    here", 3)

    def test_a_line_below_more_than_three_heads(self):
        deep = ["if on", "  again 2", "    while on"]
        self.assert_bad(lines(*deep, "      if on", "        here"), 4)
        self.assert_bad(lines(*deep, "      if on", "        if on", "          here"), 4)
        self.assert_bad(lines("if on", "  here", "else", "  again 2", "    while on", "      if on", "        here"), 6)
        self.assert_bad(lines("if on", "  if on", "    if on", "      here", "    else", "      if on",
                              "        here"), 6)

    def test_a_head_without_a_block(self):
        for head in ("if on", "until on", "while on", "again 2"):
            self.assert_bad(lines(head, "here"), 1)
            self.assert_bad(lines("if on", "  " + head, "  here"), 2)
            self.assert_bad(lines("if on", "  " + head, "here"), 2)
            self.assert_bad(lines(head, head), 1)
        self.assert_bad(lines("if on", "  here", "else", "here"), 3)
        self.assert_bad(lines("if on", "else", "  here"), 1)
        self.assert_bad(lines("if on", "  if on", "    again 2", "      if on", "      here"), 4)

    def test_a_head_at_the_end(self):
        for head in ("if on", "until on", "while on", "again 2"):
            self.assert_bad(head, 1)
            self.assert_bad("here\n" + head, 2)
            self.assert_bad("if on\n  " + head, 2)
        self.assert_bad("if on\n  here\nelse", 3)
        self.assert_bad("if on\n  if on\n    if on\n      if on", 4)
        self.assert_bad("\n".join(["here"] * 19 + ["if on"]), 20)

    def test_an_else_without_its_if(self):
        self.assert_bad("else\n  here", 0)
        self.assert_bad("here\nelse\n  here", 1)
        self.assert_bad("here\n  else\n    here", 1)
        for head in ("until on", "while on", "again 2"):
            self.assert_bad(lines(head, "  here", "else", "  here"), 2)
        self.assert_bad(lines("if on", "  here", "else", "  here", "else", "  here"), 4)
        self.assert_bad(lines("if on", "  here", "here", "else", "  here"), 3)
        self.assert_bad(lines("if on", "  else", "    here"), 1)
        self.assert_bad(lines("if on", "  here", "  else", "    here"), 2)
        self.assert_bad(lines("if on", "  here", "again 2", "  else", "    here"), 3)
        self.assert_bad(lines("again 2", "  if on", "    here", "else", "  here"), 3)
        self.assert_bad(lines("if on", "  until on", "    here", "  else", "    here"), 3)
        self.assert_bad(lines("until on", "  if on", "    here", "  here", "  else", "    here"), 4)

    def test_a_line_twenty_one(self):
        self.assert_bad("\n".join(["here"] * 21), 20)
        self.assert_bad("\n".join(["here"] * 40), 20)
        self.assert_bad("\n".join(["here"] * 19 + ["if on", "  here"]), 20)
        self.assert_bad("\n".join(["here"] * 20 + ["there"]), 20)
        self.assert_bad("\n".join(["here"] * 20) + "\n", 20)

    def test_the_first_wrong_line_counts(self):
        self.assert_bad(lines("here", "there", "else", " here"), 1)
        self.assert_bad("\n".join(["here"] * 5 + ["there"] + ["here"] * 30), 5)
        self.assert_bad(lines("here", "else", "there", "if on"), 1)

    def test_ahead_of_too_many(self):
        signs = lines(*[f"if sign {sign}\n  here" for sign in "abcde"])
        self.assert_bad(signs + "\nthere", 10)
        self.assert_bad("\n".join(["go on"] * 15 + ["there"]), 15)


class TooManyTest(unittest.TestCase):
    def assert_too_many(self, most, text):
        with self.subTest(text=text):
            self.assertEqual(most, caught(self, TooMany, Directions, text).value)

    def test_signs(self):
        heads = [f"if sign {sign}\n  here" for sign in "abcd"]
        self.assertEqual(("a", "b", "c", "d"), Directions(lines(*heads)).signs)
        self.assertEqual(("a", "b", "c", "d"), Directions(lines(*heads, "until not sign d", "  here")).signs)
        self.assert_too_many(4, lines(*heads, "if sign e", "  here"))
        self.assert_too_many(4, lines(*heads, "while not sign e", "  here"))
        self.assert_too_many(4, lines("if on", *["  " + row for row in lines(*heads, "if sign e",
                                                                             "  here").split("\n")]))

    def test_states(self):
        self.assertEqual(12, len(Directions("\n".join(["go on"] * 11)).states))
        self.assert_too_many(12, "\n".join(["go on"] * 12))
        self.assertEqual(12, len(Directions(lines("again 3", "  again 3", "    go on", "go on", "go on")).states))
        self.assert_too_many(12, lines("again 3", "  again 3", "    go on", "go on", "go on", "go on"))
        self.assert_too_many(12, lines("again 2", "  again 2", "    again 3", "      go on"))
        self.assertEqual(9, len(Directions(lines("again 2", "  again 2", "    again 2", "      go on")).states))

    def test_signs_ahead_of_states(self):
        heads = [f"if sign {sign}\n  go on" for sign in "abcde"]
        self.assert_too_many(4, lines(*heads, *["go on"] * 8))
        self.assert_too_many(12, lines(*heads[:4], *["go on"] * 8))


class PropertiesTest(unittest.TestCase):
    def test_example(self):
        directions = example_directions()
        self.assertEqual(TEXT, directions.text)
        self.assertEqual(((-1,), (1,), (2,)), directions.states)
        self.assertEqual(("bridge",), directions.signs)

    def assert_states(self, text, states):
        with self.subTest(text=text):
            self.assertEqual(states, Directions(text).states)

    def test_no_go_line(self):
        self.assert_states("here", ((-1,),))
        self.assert_states("again 3\n  here", ((-1,),))

    def test_go_lines_that_are_never_reached(self):
        self.assert_states("here\ngo on", ((-1,), (1,)))
        self.assert_states("while on\n  if not on\n    go back", ((-1,), (2,)))

    def test_no_rounds_around_other_heads(self):
        self.assert_states(lines("if on", "  go on", "else", "  until on", "    go back", "go on"),
                           ((-1,), (1,), (4,), (5,)))

    def test_rounds(self):
        self.assert_states("again 2\n  go on", ((-1,), (1, 0), (1, 1)))
        self.assert_states("again 3\n  go on", ((-1,), (1, 0), (1, 1), (1, 2)))
        self.assert_states("again 3\n  go on\ngo on", ((-1,), (1, 0), (1, 1), (1, 2), (2,)))

    def test_rounds_of_the_outermost_first(self):
        self.assert_states(lines("again 2", "  again 3", "    go on", "  go back"),
                           ((-1,), (2, 0, 0), (2, 0, 1), (2, 0, 2), (2, 1, 0), (2, 1, 1), (2, 1, 2), (3, 0), (3, 1)))
        self.assert_states(lines("again 3", "  again 2", "    go on", "go back"),
                           ((-1,), (2, 0, 0), (2, 0, 1), (2, 1, 0), (2, 1, 1), (2, 2, 0), (2, 2, 1), (3,)))
        self.assert_states(lines("again 2", "  if on", "    again 2", "      go on", "  else", "    go on"),
                           ((-1,), (3, 0, 0), (3, 0, 1), (3, 1, 0), (3, 1, 1), (5, 0), (5, 1)))

    def test_agains_that_are_done_do_not_count(self):
        self.assert_states(lines("again 2", "  here", "go on", "again 2", "  here", "if on", "  go on"),
                           ((-1,), (2,), (6,)))

    def test_line_numbers_of_two_figures(self):
        self.assert_states("\n".join(["here"] * 9 + ["go on", "go on", "here"]), ((-1,), (9,), (10,)))

    def test_signs(self):
        for text, signs in (
            ("here", ()),
            ("if on\n  here", ()),
            ("if sign b\n  here\nif sign a\n  here", ("a", "b")),
            ("until not sign oak\n  while sign inn\n    here", ("inn", "oak")),
            ("if sign a\n  here\nif sign a\n  here\nif not sign a\n  here", ("a",)),
            ("if sign left\n  here\nif sign sign\n  go on\nif left\n  here", ("left", "sign")),
            ("while sign ab\n  here\nwhile sign b\n  here\nwhile sign a\n  here", ("a", "ab", "b")),
        ):
            with self.subTest(text=text):
                self.assertEqual(signs, Directions(text).signs)

    def test_they_stay_when_asked_for(self):
        directions = example_directions()
        directions.act((-1,), (0, 0, True, ()))
        self.assertEqual((TEXT, ((-1,), (1,), (2,)), ("bridge",)),
                         (directions.text, directions.states, directions.signs))


class EqualTest(unittest.TestCase):
    def test_equal_texts(self):
        self.assertTrue(example_directions() == Directions(TEXT))
        self.assertFalse(example_directions() != Directions(TEXT))
        self.assertIs(True, example_directions() == Directions(TEXT))

    def test_other_texts(self):
        for text in ("here", TEXT + "\nhere", TEXT.replace("1", "2"), TEXT.replace("until", "while not")):
            self.assertFalse(example_directions() == Directions(text))
            self.assertTrue(example_directions() != Directions(text))

    def test_nothing_else_is_equal(self):
        for value in (TEXT, None, (TEXT,), 0, [], {}, example_town(), example_sketch()):
            self.assertFalse(example_directions() == value)
            self.assertFalse(value == example_directions())
            self.assertTrue(example_directions() != value)


if __name__ == "__main__":
    unittest.main()
