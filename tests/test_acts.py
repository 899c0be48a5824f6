"""Promise 7: what is done by directions; their mirror images, and directions put in the place of here."""

import unittest

from samples import any_values, caught, example_directions, example_sketch, example_town
from sketchways.directions import Directions
from sketchways.errors import BadState, BadText, BadView, TooMany

FIRST = (-1,)
PLAIN = (0, 0, True, ())
BLIND = (0, 0, False, ())


def lines(*rows):
    return "\n".join(rows)


def mirrored(done):
    """What is done in the mirror."""
    if done[0] == "go" and len(done[1]) == 2:
        return "go", ("right" if done[1][0] == "left" else "left", done[1][1]), done[2]
    return done


class ActTest(unittest.TestCase):
    def assert_act(self, text, state, view, done):
        with self.subTest(text=text, state=state, view=view):
            directions = Directions(text)
            self.assertEqual(done, directions.act(state, view))
            left, right, on, signs = view
            self.assertEqual(mirrored(done), (~directions).act(state, (right, left, on, signs)))

    def assert_holds(self, condition, view, holds):
        here, go = ("here",), ("go", ("on",), (3,))
        self.assert_act(f"if {condition}\n  here\nelse\n  go on", FIRST, view, here if holds else go)
        self.assert_act(f"if not {condition}\n  here\nelse\n  go on", FIRST, view, go if holds else here)

    def test_example(self):
        directions = example_directions()
        self.assertEqual(("go", ("on",), (1,)), directions.act((-1,), (0, 0, True, ())))
        self.assertEqual(("go", ("left", 1), (2,)), directions.act((1,), (1, 0, True, ("bridge",))))
        self.assertEqual(("here",), directions.act(view=PLAIN, state=(2,)))

    def test_choices(self):
        for words, choice in (("on", ("on",)), ("back", ("back",)), ("left 1", ("left", 1)), ("left 2", ("left", 2)),
                              ("left 3", ("left", 3)), ("right 1", ("right", 1)), ("right 3", ("right", 3))):
            self.assert_act("go " + words, FIRST, PLAIN, ("go", choice, (0,)))
            self.assert_act("go " + words, FIRST, BLIND, ("go", choice, (0,)))

    def test_line_by_line(self):
        text = lines("go on", "go back", "here", "go left 1")
        self.assert_act(text, FIRST, PLAIN, ("go", ("on",), (0,)))
        self.assert_act(text, (0,), PLAIN, ("go", ("back",), (1,)))
        self.assert_act(text, (1,), PLAIN, ("here",))
        self.assert_act(text, (3,), PLAIN, ("lost",))

    def test_the_end_of_the_text(self):
        self.assert_act("go on", (0,), PLAIN, ("lost",))
        self.assert_act(lines("if on", "  go on"), (1,), PLAIN, ("lost",))
        self.assert_act(lines("if on", "  here"), FIRST, BLIND, ("lost",))
        self.assert_act(lines("until on", "  here"), FIRST, PLAIN, ("lost",))
        self.assert_act(lines("while on", "  here"), FIRST, BLIND, ("lost",))
        self.assert_act(lines("again 2", "  if on", "    go on"), FIRST, BLIND, ("lost",))

    def test_signs(self):
        for signs, holds in (((), False), (("bridge",), True), (("inn",), False), (("bridge", "inn"), True),
                             (("a", "bridge"), True), (("bridg", "bridges"), False)):
            self.assert_holds("sign bridge", (1, 2, True, signs), holds)
            self.assert_holds("sign bridge", (1, 1, False, signs), holds)

    def test_on(self):
        self.assert_holds("on", (0, 0, True, ()), True)
        self.assert_holds("on", (2, 1, True, ()), True)
        self.assert_holds("on", (0, 0, False, ()), False)
        self.assert_holds("on", (2, 2, False, ()), False)

    def test_sides(self):
        for view, left, right in (((0, 0, True, ()), False, False), ((1, 0, True, ()), True, False),
                                  ((0, 1, True, ()), False, True), ((19, 3, True, ()), True, True),
                                  ((0, 0, False, ()), False, False), ((1, 1, False, ()), True, True)):
            self.assert_holds("left", view, left)
            self.assert_holds("right", view, right)

    def test_ends(self):
        for many in (1, 2, 3, 4):
            for left in range(6):
                self.assert_holds(f"ends {many}", (left, left, False, ()), left >= many)
                for right in range(6):
                    self.assert_holds(f"ends {many}", (left, right, True, ()), left + right + 1 >= many)

    def test_signs_with_names_of_other_conditions(self):
        self.assert_holds("sign left", (1, 0, True, ()), False)
        self.assert_holds("sign left", (0, 0, True, ("left",)), True)
        self.assert_holds("sign on", (0, 0, True, ()), False)
        self.assert_holds("sign not", (0, 0, True, ("not",)), True)
        self.assert_holds("sign here", (0, 0, True, ()), False)
        self.assert_holds("sign here", (0, 0, True, ("here",)), True)

    def test_if_without_else(self):
        text = lines("if left", "  go left 1", "go on")
        self.assert_act(text, FIRST, (1, 0, True, ()), ("go", ("left", 1), (1,)))
        self.assert_act(text, FIRST, PLAIN, ("go", ("on",), (2,)))
        self.assert_act(text, (1,), (1, 0, True, ()), ("go", ("on",), (2,)))

    def test_if_with_else(self):
        text = lines("if left", "  go left 1", "  go back", "else", "  go right 1", "  go right 2", "go on")
        self.assert_act(text, FIRST, (1, 0, True, ()), ("go", ("left", 1), (1,)))
        self.assert_act(text, (1,), PLAIN, ("go", ("back",), (2,)))
        self.assert_act(text, (2,), PLAIN, ("go", ("on",), (6,)))
        self.assert_act(text, FIRST, PLAIN, ("go", ("right", 1), (4,)))
        self.assert_act(text, (4,), (1, 0, True, ()), ("go", ("right", 2), (5,)))
        self.assert_act(text, (5,), (1, 0, True, ()), ("go", ("on",), (6,)))

    def test_an_else_belongs_to_the_if_as_deep_as_it(self):
        text = lines("if left", "  if right", "    go on", "else", "  go back", "here")
        self.assert_act(text, FIRST, (1, 1, True, ()), ("go", ("on",), (2,)))
        self.assert_act(text, FIRST, (1, 0, True, ()), ("here",))
        self.assert_act(text, FIRST, (0, 0, True, ()), ("go", ("back",), (4,)))
        text = lines("if left", "  if right", "    go on", "  else", "    go back", "here")
        self.assert_act(text, FIRST, (1, 0, True, ()), ("go", ("back",), (4,)))
        self.assert_act(text, FIRST, (0, 0, True, ()), ("here",))
        self.assert_act(text, (2,), (0, 0, True, ()), ("here",))
        text = lines("if left", "  until right", "    go on", "else", "  go back")
        self.assert_act(text, FIRST, (1, 1, True, ()), ("lost",))
        self.assert_act(text, (2,), (0, 1, True, ()), ("lost",))
        self.assert_act(text, (2,), (0, 0, True, ()), ("go", ("on",), (2,)))

    def test_until_asks_first_and_again(self):
        text = lines("until left", "  go on", "  go back", "here")
        self.assert_act(text, FIRST, (1, 0, True, ()), ("here",))
        self.assert_act(text, FIRST, PLAIN, ("go", ("on",), (1,)))
        self.assert_act(text, (1,), (1, 0, True, ()), ("go", ("back",), (2,)))
        self.assert_act(text, (2,), (1, 0, True, ()), ("here",))
        self.assert_act(text, (2,), PLAIN, ("go", ("on",), (1,)))

    def test_while_asks_first_and_again(self):
        text = lines("while left", "  go on", "here")
        self.assert_act(text, FIRST, (1, 0, True, ()), ("go", ("on",), (1,)))
        self.assert_act(text, FIRST, PLAIN, ("here",))
        self.assert_act(text, (1,), (1, 0, True, ()), ("go", ("on",), (1,)))
        self.assert_act(text, (1,), PLAIN, ("here",))

    def test_again(self):
        text = lines("again 3", "  go on", "here")
        self.assert_act(text, FIRST, PLAIN, ("go", ("on",), (1, 2)))
        self.assert_act(text, (1, 2), PLAIN, ("go", ("on",), (1, 1)))
        self.assert_act(text, (1, 1), PLAIN, ("go", ("on",), (1, 0)))
        self.assert_act(text, (1, 0), PLAIN, ("here",))
        text = lines("again 2", "  go on", "  go back")
        self.assert_act(text, FIRST, PLAIN, ("go", ("on",), (1, 1)))
        self.assert_act(text, (1, 1), PLAIN, ("go", ("back",), (2, 1)))
        self.assert_act(text, (2, 1), PLAIN, ("go", ("on",), (1, 0)))
        self.assert_act(text, (2, 0), PLAIN, ("lost",))

    def test_again_in_again(self):
        text = lines("again 2", "  again 3", "    go on", "  go back", "here")
        for state, choice, after in ((FIRST, "on", (2, 1, 2)), ((2, 1, 2), "on", (2, 1, 1)),
                                     ((2, 1, 1), "on", (2, 1, 0)),
                                     ((2, 1, 0), "back", (3, 1)), ((3, 1), "on", (2, 0, 2)),
                                     ((2, 0, 1), "on", (2, 0, 0)), ((2, 0, 0), "back", (3, 0))):
            self.assert_act(text, state, PLAIN, ("go", (choice,), after))
        self.assert_act(text, (3, 0), PLAIN, ("here",))

    def test_rounds_without_a_go(self):
        text = lines("again 3", "  if left", "    go on", "here")
        self.assert_act(text, FIRST, (1, 0, True, ()), ("go", ("on",), (2, 2)))
        self.assert_act(text, FIRST, PLAIN, ("here",))
        self.assert_act(text, (2, 2), PLAIN, ("here",))
        self.assert_act(text, (2, 1), (1, 0, True, ()), ("go", ("on",), (2, 0)))

    def test_again_in_a_loop_begins_anew(self):
        text = lines("until left", "  again 2", "    go on", "here")
        self.assert_act(text, (2, 1), PLAIN, ("go", ("on",), (2, 0)))
        self.assert_act(text, (2, 0), PLAIN, ("go", ("on",), (2, 1)))
        self.assert_act(text, (2, 1), (1, 0, True, ()), ("go", ("on",), (2, 0)))
        self.assert_act(text, (2, 0), (1, 0, True, ()), ("here",))

    def test_a_loop_in_again(self):
        text = lines("again 2", "  until left", "    go on", "  go back")
        self.assert_act(text, (2, 1), (1, 0, True, ()), ("go", ("back",), (3, 1)))
        self.assert_act(text, (3, 1), (1, 0, True, ()), ("go", ("back",), (3, 0)))
        self.assert_act(text, (3, 1), PLAIN, ("go", ("on",), (2, 0)))
        self.assert_act(text, (2, 0), PLAIN, ("go", ("on",), (2, 0)))

    def test_round(self):
        self.assert_act(lines("while on", "  if left", "    go on"), FIRST, PLAIN, ("round",))
        self.assert_act(lines("while on", "  if left", "    go on"), (2,), PLAIN, ("round",))
        self.assert_act(lines("while on", "  if left", "    go on"), FIRST, (1, 0, True, ()), ("go", ("on",), (2,)))
        self.assert_act(lines("until left", "  again 3", "    if left", "      go on", "here"), FIRST, PLAIN,
                        ("round",))
        self.assert_act(lines("again 3", "  while on", "    until on", "      go on"), FIRST, PLAIN, ("round",))
        self.assert_act(lines("again 2", "  until left", "    while left", "      go on"), (3, 0), PLAIN, ("round",))
        self.assert_act(lines("while on", "  while left", "    go on", "  if right", "    here"), FIRST, PLAIN,
                        ("round",))

    def test_a_loop_that_is_not_entered_is_no_round(self):
        self.assert_act(lines("until on", "  if left", "    go on", "here"), FIRST, PLAIN, ("here",))
        self.assert_act(lines("again 3", "  again 3", "    while left", "      here"), FIRST, PLAIN, ("lost",))

    def test_states_that_are_never_reached(self):
        self.assert_act(lines("here", "go on", "go back"), (1,), PLAIN, ("go", ("back",), (2,)))
        self.assert_act(lines("while on", "  if not on", "    go back", "    here"), (2,), PLAIN, ("here",))

    def test_three_heads(self):
        text = lines("again 2", "  until left", "    if right", "      go right 1", "    else", "      go on", "here")
        self.assert_act(text, FIRST, (0, 1, True, ()), ("go", ("right", 1), (3, 1)))
        self.assert_act(text, (3, 1), PLAIN, ("go", ("on",), (5, 1)))
        self.assert_act(text, (5, 1), (1, 0, True, ()), ("here",))
        self.assert_act(text, (5, 1), (0, 1, True, ()), ("go", ("right", 1), (3, 1)))

    def test_many_signs_and_ends_in_a_view(self):
        signs = tuple("abcdefghijklmnopqrstuvwxyz")
        self.assert_act("if sign q\n  here", FIRST, (19, 19, True, signs), ("here",))
        self.assert_act("if ends 4\n  here", FIRST, (19, 19, False, signs), ("here",))


class BadActTest(unittest.TestCase):
    def assert_bad_state(self, directions, state):
        with self.subTest(state=state):
            self.assertIs(state, caught(self, BadState, directions.act, state, PLAIN).value)
            self.assertIs(state, caught(self, BadState, directions.act, view=None, state=state).value)

    def assert_bad_view(self, view):
        with self.subTest(view=view):
            directions = example_directions()
            self.assertIs(view, caught(self, BadView, directions.act, FIRST, view).value)
            self.assertIs(view, caught(self, BadView, directions.act, view=view, state=(2,)).value)

    def test_any_values(self):
        for value in any_values():
            self.assert_bad_state(example_directions(), value)
            self.assert_bad_view(value)
            self.assert_bad_view((0, 0, True, (value,)))
            if type(value) is not int:
                self.assert_bad_state(example_directions(), (value,))
                self.assert_bad_view((value, 0, True, ()))
                self.assert_bad_view((0, value, True, ()))
            if type(value) is not bool:
                self.assert_bad_view((0, 0, value, ()))
            if value not in ((), ("bridge",)):
                self.assert_bad_view((0, 0, True, value))

    def test_states_of_no_go_line(self):
        for state in ((0,), (3,), (4,), (-2,), (1, 0), (-1, 0), (), -1, 1, [-1], [1], (True,), ("1",), ((1,),)):
            self.assert_bad_state(example_directions(), state)

    def test_states_with_rounds(self):
        directions = Directions("again 2\n  again 3\n    go on\n  go back")
        for state in ((2,), (2, 0), (2, 0, 3), (2, 2, 0), (2, -1, 0), (2, 0, 0, 0), (3,), (3, 2), (2, False, 0),
                      (2, 0, True), (3, True), (3, False), (2, (0, 0)), [2, 0, 0]):
            self.assert_bad_state(directions, state)
        self.assertEqual(("lost",), directions.act((3, 0), PLAIN))

    def test_views(self):
        for view in ((-1, 0, True, ()), (0, -1, True, ()), (20, 0, True, ()), (0, 20, True, ()), (20, 20, False, ()),
                     (True, 0, True, ()), (0, False, True, ()), ("0", 0, True, ()), (0, 0, 1, ()), (0, 0, 0, ()),
                     (0, 0, None, ()), (0, 0, "yes", ()), (1, 0, False, ()), (0, 1, False, ()), (3, 4, False, ()),
                     (0, 0, True, []), (0, 0, True, ["inn"]), (0, 0, True, "inn"), (0, 0, True, ("inn", "inn")),
                     (0, 0, True, ("oak", "inn")), (0, 0, True, ("Inn",)), (0, 0, True, ("",)), (0, 0, True, (1,)),
                     (0, 0, True, None), (0, 0, True), (0, 0, True, (), ()), [0, 0, True, ()], (0, 0), (), None):
            self.assert_bad_view(view)

    def test_the_state_ahead_of_the_view(self):
        self.assertEqual((7,), caught(self, BadState, example_directions().act, (7,), None).value)

    def test_good_views(self):
        for view in ((0, 0, True, ()), (19, 19, True, ()), (19, 19, False, ()), (0, 19, True, ()), (0, 0, False, ()),
                     (2, 5, True, ("abcdefgh", "b", "z"))):
            self.assertEqual(("here",), Directions("here").act(FIRST, view))


class MirrorTest(unittest.TestCase):
    def assert_mirror(self, text, other):
        with self.subTest(text=text):
            self.assertEqual(other, (~Directions(text)).text)
            self.assertEqual(text, (~Directions(other)).text)

    def test_example(self):
        self.assertEqual("go right 1", (~example_directions()).text.split("\n")[2])
        self.assert_mirror("until sign bridge\n  go on\ngo left 1\nhere",
                           "until sign bridge\n  go on\ngo right 1\nhere")

    def test_go_lines(self):
        self.assert_mirror("go left 1\ngo right 2\ngo left 3\ngo on\ngo back",
                           "go right 1\ngo left 2\ngo right 3\ngo on\ngo back")

    def test_conditions(self):
        for head in ("if", "until", "while"):
            self.assert_mirror(f"{head} left\n  here", f"{head} right\n  here")
            self.assert_mirror(f"{head} not left\n  here", f"{head} not right\n  here")
            self.assert_mirror(f"{head} on\n  go left 1", f"{head} on\n  go right 1")
            self.assert_mirror(f"{head} ends 3\n  here", f"{head} ends 3\n  here")

    def test_names_of_signs_stay(self):
        for sign in ("left", "right", "sign", "leftleft"):
            self.assert_mirror(f"if sign {sign}\n  here", f"if sign {sign}\n  here")
            self.assert_mirror(f"until not sign {sign}\n  go left 2", f"until not sign {sign}\n  go right 2")

    def test_blocks(self):
        self.assert_mirror(
            lines("again 2", "  if left", "    go left 1", "  else", "    while right", "      go right 3", "here"),
            lines("again 2", "  if right", "    go right 1", "  else", "    while left", "      go left 3", "here"))

    def test_kind(self):
        self.assertIsInstance(~example_directions(), Directions)
        directions = example_directions()
        self.assertTrue(~~directions == directions)
        self.assertEqual("go left 1", directions.text.split("\n")[2])


class BehindTest(unittest.TestCase):
    def assert_behind(self, one, other, text):
        with self.subTest(one=one, other=other):
            left, right = Directions(one), Directions(other)
            self.assertIsInstance(left >> right, Directions)
            self.assertEqual(text, (left >> right).text)
            self.assertEqual((one, other), (left.text, right.text))

    def test_here(self):
        self.assert_behind("here", "go on", "go on")
        self.assert_behind("here", "here", "here")
        self.assert_behind("go on\nhere", "go back\nhere", "go on\ngo back\nhere")

    def test_no_here(self):
        self.assert_behind("go on", "go back\nhere", "go on")

    def test_each_here(self):
        self.assert_behind("here\ngo on\nhere", "go back", "go back\ngo on\ngo back")

    def test_as_much_deeper(self):
        self.assert_behind(
            lines("if on", "  here", "else", "  again 2", "    here", "go on"),
            lines("if left", "  go left 1", "here"),
            lines("if on", "  if left", "    go left 1", "  here", "else", "  again 2", "    if left",
                  "      go left 1",
                  "    here", "go on"))

    def test_what_stands_behind_goes_on(self):
        directions = Directions("if left\n  here\ngo on") >> Directions("go back")
        self.assertEqual(("go", ("back",), (1,)), directions.act(FIRST, (1, 0, True, ())))
        self.assertEqual(("go", ("on",), (2,)), directions.act((1,), (1, 0, True, ())))

    def test_a_here_in_other_stays(self):
        self.assert_behind("again 2\n  here", "go on\nhere", "again 2\n  go on\n  here")

    def test_an_else_of_one_behind_an_if_of_other(self):
        self.assert_behind(lines("if on", "  here", "else", "  here"), lines("if left", "  here"),
                           lines("if on", "  if left", "    here", "else", "  if left", "    here"))

    def test_bad_texts(self):
        deep = Directions(lines("if on", "  if on", "    if on", "      here"))
        self.assertEqual(4, caught(self, BadText, lambda: deep >> Directions("if on\n  here")).value)
        self.assertEqual(4, caught(self, BadText, lambda: deep >> Directions("if on\n  if on\n    here")).value)
        self.assertEqual(deep, deep >> Directions("here"))
        many = Directions("\n".join(["here"] * 10))
        self.assertEqual("\n".join(["here"] * 20), (many >> Directions("here\nhere")).text)
        self.assertEqual(20, caught(self, BadText, lambda: many >> Directions("here\nhere\nhere")).value)

    def test_too_many(self):
        signs = Directions(lines("if sign a", "  here", "if sign b", "  go on"))
        more = Directions(lines("if sign c", "  go on", "if sign d", "  go on"))
        self.assertEqual(("a", "b", "c", "d"), (signs >> more).signs)
        most = Directions(lines("if sign c", "  go on", "if sign d", "  if sign e", "    here"))
        self.assertEqual(4, caught(self, TooMany, lambda: signs >> most).value)
        goes = Directions("\n".join(["go on"] * 5))
        again = Directions("again 2\n  here")
        self.assertEqual(11, len((again >> goes).states))
        self.assertEqual(12, caught(self, TooMany, lambda: again >> Directions("\n".join(["go on"] * 6))).value)

    def test_other_operands(self):
        directions = example_directions()
        for value in (None, 0, 1, True, "here", (), ("here",), [], {}, example_town(), example_sketch()):
            with self.subTest(value=value):
                with self.assertRaises(TypeError):
                    directions >> value
                with self.assertRaises(TypeError):
                    value >> directions

    def test_mirror(self):
        one = Directions("if left\n  here\nelse\n  go right 2\n  here")
        other = Directions("while right\n  go left 1")
        self.assertTrue(~(one >> other) == ~one >> ~other)


if __name__ == "__main__":
    unittest.main()
