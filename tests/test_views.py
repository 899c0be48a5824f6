"""Promise 4: what a walker sees and takes; promise 3, (e): the same in the mirror."""

import unittest

from samples import any_values, caught, example_town, star
from sketchways.errors import BadChoice, NoStop
from sketchways.towns import Town

CHOICES = (("on",), ("back",), ("left", 1), ("left", 2), ("left", 3), ("right", 1), ("right", 2), ("right", 3))

# The ends and straight pairs of a crossing; for each of its ends what is on the left, on the right, and straight on.
VIEWS = (
    (1, (), (((), (), None),)),
    (2, (), (((1,), (1,), None), ((0,), (0,), None))),
    (2, ((0, 1),), (((), (), 1), ((), (), 0))),
    (3, (), (((1, 2), (2, 1), None), ((2, 0), (0, 2), None), ((0, 1), (1, 0), None))),
    (3, ((0, 1),), (((), (2,), 1), ((2,), (), 0), ((0, 1), (1, 0), None))),
    (3, ((0, 2),), (((1,), (), 2), ((2, 0), (0, 2), None), ((), (1,), 0))),
    (3, ((1, 2),), (((1, 2), (2, 1), None), ((), (0,), 2), ((0,), (), 1))),
    (4, ((0, 2), (1, 3)), (((1,), (3,), 2), ((2,), (0,), 3), ((3,), (1,), 0), ((0,), (2,), 1))),
    (4, ((0, 3),), (((1, 2), (), 3), ((2, 3, 0), (0, 3, 2), None), ((3, 0, 1), (1, 0, 3), None), ((), (2, 1), 0))),
    (5, ((0, 2), (1, 3)), (((1,), (4, 3), 2), ((2,), (0, 4), 3), ((3, 4), (1,), 0), ((4, 0), (2,), 1),
                           ((0, 1, 2, 3), (3, 2, 1, 0), None))),
    (6, ((1, 5),), (((1, 2, 3, 4, 5), (5, 4, 3, 2, 1), None), ((2, 3, 4), (0,), 5),
                    ((3, 4, 5, 0, 1), (1, 0, 5, 4, 3), None), ((4, 5, 0, 1, 2), (2, 1, 0, 5, 4), None),
                    ((5, 0, 1, 2, 3), (3, 2, 1, 0, 5), None), ((0,), (4, 3, 2), 1))),
)


def ends_by_choice(left, right, on, behind):
    """The end that each choice takes, by what is on the left, on the right, and straight on."""
    taken = {("on",): on, ("back",): behind}
    for k in (1, 2, 3):
        taken["left", k] = left[k - 1] if k <= len(left) else None
        taken["right", k] = right[k - 1] if k <= len(right) else None
    return taken


class ViewTest(unittest.TestCase):
    def test_examples(self):
        town = example_town()
        self.assertEqual((1, 0, True, ("bridge",)), town.view(("bridge", 0)))
        self.assertEqual((0, 1, True, ("bridge",)), town.view(("bridge", 2)))
        self.assertEqual((2, 2, False, ("bridge",)), town.view(("bridge", 1)))
        self.assertEqual((0, 0, False, ("bread",)), town.view(("baker", 0)))
        self.assertEqual((0, 0, False, ()), town.view(stop=("yard", 0)))

    def test_views(self):
        for ends, straight, views in VIEWS:
            town = star(ends, straight, ("inn", "oak"))
            for end, (left, right, on) in enumerate(views):
                with self.subTest(ends=ends, straight=straight, end=end):
                    self.assertEqual((len(left), len(right), on is not None, ("inn", "oak")), town.view(("mid", end)))
                    self.assertIs(on is not None, town.view(("mid", end))[2])

    def test_twenty_ends(self):
        self.assertEqual((19, 19, False, ()), star(20).view(("mid", 7)))
        self.assertEqual((4, 14, True, ()), star(20, ((7, 12),)).view(("mid", 7)))
        self.assertEqual((14, 4, True, ()), star(20, ((7, 12),)).view(("mid", 12)))

    def test_no_stop(self):
        town = example_town()
        for value in any_values() + [("bridge", 3), ("bridge", -1), ("bridge", True), ("nobody", 0), ["baker", 0]]:
            with self.subTest(value=value):
                self.assertIs(value, caught(self, NoStop, town.view, value).value)
                self.assertIs(value, caught(self, NoStop, town.view, stop=value).value)


class ChoiceTest(unittest.TestCase):
    def test_examples(self):
        town = example_town()
        self.assertEqual(2, town.taken(("bridge", 1), ("left", 1)))
        self.assertEqual(0, town.taken(("bridge", 1), ("right", 1)))
        self.assertIsNone(town.taken(("bridge", 0), ("right", 1)))
        self.assertEqual(1, town.taken(choice=("left", 1), stop=("bridge", 0)))

    def test_all_choices(self):
        for ends, straight, views in VIEWS:
            town = star(ends, straight)
            for end, (left, right, on) in enumerate(views):
                expected = ends_by_choice(left, right, on, end)
                for choice in CHOICES:
                    with self.subTest(ends=ends, straight=straight, end=end, choice=choice):
                        self.assertEqual(expected[choice], town.taken(("mid", end), choice))

    def test_ends_of_one_street(self):
        town = Town((("a", 4, (), ()),), ((("a", 0), ("a", 1)), (("a", 2), ("a", 3))))
        self.assertEqual([1, 2, 3, 3, 2, 1], [town.taken(("a", 0), choice) for choice in CHOICES[2:]])

    def test_no_stop(self):
        town = example_town()
        for value in any_values() + [("bridge", 3), ("bridge", -1), ("bridge", True), ("nobody", 0), ["baker", 0]]:
            for choice in (("on",), None, ("left", 4)):
                with self.subTest(value=value, choice=choice):
                    self.assertIs(value, caught(self, NoStop, town.taken, value, choice).value)
                    self.assertIs(value, caught(self, NoStop, town.taken, choice=choice, stop=value).value)

    def test_bad_choices(self):
        town = star(6)
        wrong = [("left", 0), ("left", 4), ("left", -1), ("left", True), ("right", 0), ("right", 4), ("right", True),
                 ("right", -1), ("left", "1"), ("left", None), ("left", (1,)), ["left", 1], ["on"], ["back"],
                 ("left",), ("right",), ("on", 1), ("back", 1), ("on", None), ("left", 1, 1), ("up",), ("up", 1),
                 ("Left", 1), "on", "back", "left", "", ("on", "back"), (("on",),), (("left", 1),), ("left", [1]),
                 (1, "left"), ("straight", 1), ("", 1), (None, 1), (["left"], 1)]
        for value in any_values() + wrong:
            with self.subTest(value=value):
                self.assertIs(value, caught(self, BadChoice, town.taken, ("mid", 0), value).value)
                self.assertIs(value, caught(self, BadChoice, town.taken, choice=value, stop=("mid", 0)).value)


class MirrorTest(unittest.TestCase):
    def exchanged(self, choice):
        sides = {"left": "right", "right": "left"}
        return (sides.get(choice[0], choice[0]),) + choice[1:]

    def test_left_and_right_are_exchanged(self):
        for ends, straight, views in VIEWS:
            town = star(ends, straight, ("inn",))
            mirror = ~town
            for end in range(ends):
                with self.subTest(ends=ends, straight=straight, end=end):
                    self.assert_mirrored(town, mirror, ends, end)

    def assert_mirrored(self, town, mirror, ends, end):
        image = ("mid", (ends - end) % ends)
        left, right, on, signs = town.view(("mid", end))
        self.assertEqual((right, left, on, signs), mirror.view(image))
        for choice in CHOICES:
            taken = town.taken(("mid", end), choice)
            expected = None if taken is None else (ends - taken) % ends
            self.assertEqual(expected, mirror.taken(image, self.exchanged(choice)))


if __name__ == "__main__":
    unittest.main()
