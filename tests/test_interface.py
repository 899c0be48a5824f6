"""The interface: what is defined where, and each of its calls once with the names of all arguments."""

import importlib
import unittest

from samples import FACTS, PLACES, STREETS, TEXT, TOLD, WAYS, example_directions, example_sketch, example_town
from sketchways.asking import shows_starts, shows_worth_asking, starts, worth_asking
from sketchways.comparing import alike, shows_alike
from sketchways.desk import Desk
from sketchways.directions import Directions
from sketchways.fits import drawn, fit, shows_fit
from sketchways.journals import read_tour
from sketchways.judging import shows_verdict, verdict
from sketchways.places import answer, filled, possible
from sketchways.sketches import Sketch
from sketchways.texts import read_sketch, read_town, show_sketch, show_town
from sketchways.tours import Tour
from sketchways.towns import Town
from sketchways.walking import led, walk
from sketchways.wording import cheapest, shows_cheapest

INTERFACE = {
    "towns": ["Town"], "sketches": ["Sketch"], "fits": ["fit", "shows_fit", "drawn"], "directions": ["Directions"],
    "walking": ["walk", "led"], "places": ["answer", "filled", "possible"], "judging": ["verdict", "shows_verdict"],
    "asking": ["starts", "shows_starts", "worth_asking", "shows_worth_asking"],
    "wording": ["cheapest", "shows_cheapest"],
    "comparing": ["alike", "shows_alike"], "tours": ["Tour"],
    "texts": ["show_town", "read_town", "show_sketch", "read_sketch"],
    "journals": ["read_tour"], "desk": ["Desk"],
}
METHODS = {
    Town: ["crossings", "streets", "names", "view", "taken", "__contains__", "__len__", "__getitem__", "__eq__",
           "__invert__"],
    Sketch: ["crossings", "streets", "facts", "net", "tell", "forget", "copy", "tellable", "__contains__", "__len__",
             "__or__",
             "__and__", "__ior__", "__le__", "__lt__", "__ge__", "__gt__", "__eq__", "__invert__"],
    Directions: ["text", "states", "signs", "act", "__eq__", "__invert__", "__rshift__"],
    Tour: ["town", "directions", "stop", "state", "stops", "finish", "orders", "step", "go", "reword", "undo", "redo",
           "tried",
           "trial", "sketch", "copy", "journal", "__eq__"],
    Desk: ["tour", "say"],
}
STATION = ("station", "s")
BRIDGE = ("at", "bridge")


class InterfaceTest(unittest.TestCase):
    def test_where_things_are_defined(self):
        for name, words in INTERFACE.items():
            module = importlib.import_module("sketchways." + name)
            for word in words:
                self.assertEqual(("sketchways." + name, word),
                                 (getattr(module, word).__module__, getattr(module, word).__name__))

    def test_methods_of_the_classes_themselves(self):
        for told, words in METHODS.items():
            for word in words:
                self.assertIn(word, vars(told))


class NamesTest(unittest.TestCase):
    """All arguments by their names, the last one first."""

    def test_towns(self):
        town = Town(streets=STREETS, crossings=PLACES)
        self.assertTrue(town == example_town())
        self.assertEqual((1, 0, True, ("bridge",)), town.view(stop=("bridge", 0)))
        self.assertEqual(2, town.taken(choice=("on",), stop=("bridge", 0)))

    def test_sketches(self):
        sketch = Sketch(facts=FACTS[:1], streets=WAYS, crossings=TOLD)
        self.assertIsNone(sketch.tell(fact=FACTS[1]))
        self.assertIsNone(sketch.forget(fact=FACTS[0]))
        self.assertEqual(FACTS[1:2], sketch.facts)

    def test_fits(self):
        found = fit(town=example_town(), sketch=example_sketch())
        self.assertIs(True, shows_fit(value=found, town=example_town(), sketch=example_sketch()))
        self.assertEqual(1, len(drawn(names=("baker", "bridge"), town=example_town()).streets))

    def test_directions(self):
        directions = Directions(text=TEXT)
        self.assertEqual(("go", ("on",), (1,)), directions.act(view=(0, 0, True, ()), state=(-1,)))

    def test_walks(self):
        town, sketch = example_town(), example_sketch()
        self.assertEqual("here", walk(start=("station", 0), directions=example_directions(), town=town)[1])
        self.assertEqual("comes", led(goal="baker", start=STATION, directions=example_directions(),
                                      fit=fit(sketch, town),
                                      town=town, sketch=sketch))

    def test_places(self):
        named = {"place": BRIDGE, "directions": example_directions(), "sketch": example_sketch()}
        self.assertEqual(("leaves",), answer(question=("a", (-1,)), filling=((1, 0, 0), ()), **named))
        self.assertEqual((0, ((0, 0, 0), ())), filled(known=(), **named))
        self.assertEqual((("go", "b", (2,)), ("leaves",)), possible(question=("a", (-1,)), known=(), **named))

    def test_verdicts(self):
        named = {"wish": "comes", "goal": "baker", "directions": example_directions(), "sketch": example_sketch()}
        found = starts(**named)
        self.assertIs(True, shows_starts(value=found, **named))
        named["start"] = STATION
        found = verdict(**named)
        self.assertIs(True, shows_verdict(value=found, **named))
        found = worth_asking(facts=FACTS, **named)
        self.assertIs(True, shows_worth_asking(value=found, facts=FACTS, **named))
        found = cheapest(offers=((2, "go back", 1),), **named)
        self.assertIs(True, shows_cheapest(value=found, offers=((2, "go back", 1),), **named))

    def test_two_directions(self):
        named = {"start": STATION, "other": Directions("here"), "one": example_directions(), "sketch": example_sketch()}
        found = alike(**named)
        self.assertIs(True, shows_alike(value=found, **named))

    def test_tours_and_texts(self):
        tour = Tour(start=("station", 0), directions=example_directions(), town=example_town())
        self.assertIsNone(tour.reword(directions=Directions("go on")))
        tour.step()
        self.assertIsNone(tour.go(choice=("on",)))
        self.assertEqual(3, tour.tried(look=lambda other: other.orders, keep=True))
        self.assertTrue(tour == read_tour(text=tour.journal))
        self.assertTrue(example_town() == read_town(text=show_town(town=example_town())))
        self.assertTrue(example_sketch() == read_sketch(text=show_sketch(sketch=example_sketch())))
        self.assertEqual("yard 0", Desk(tour=tour).say(line="where"))


if __name__ == "__main__":
    unittest.main()
