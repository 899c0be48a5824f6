"""What several tests use: towns, sketches, and values of all kinds."""

from sketchways.sketches import Sketch
from sketchways.towns import Town

PLACES = (
    ("baker", 1, (), ("bread",)),
    ("bridge", 3, ((0, 2),), ("bridge",)),
    ("station", 1, (), ()),
    ("yard", 1, (), ()),
)
STREETS = (
    (("baker", 0), ("bridge", 1)),
    (("bridge", 0), ("station", 0)),
    (("bridge", 2), ("yard", 0)),
)

TOLD = (
    ("baker", ("p",), (), ("bread",)),
    ("bridge", ("a", "b", "c"), (("a", "c"),), ("bridge",)),
    ("station", ("s",), (), ()),
)
WAYS = (
    (("baker", "p"), ("bridge", "b")),
    (("bridge", "a"), ("station", "s")),
)
FACTS = (("clear", "baker", "p"), ("only", "bridge"), ("shut", "bridge", "a"))


def example_town():
    return Town(PLACES, STREETS)


def example_sketch(facts=()):
    return Sketch(TOLD, WAYS, facts)


def star(ends, straight=(), signs=()):
    """A town with a crossing mid of so many ends, each of them joined to a blind end."""
    letters = "abcdefghijklmnopqrst"[:ends]
    crossings = (("mid", ends, straight, signs),) + tuple(("z" + letter, 1, (), ()) for letter in letters)
    return Town(crossings, tuple((("mid", k), ("z" + letter, 0)) for k, letter in enumerate(letters)))


def nested(many):
    """A tuple in a tuple, so many deep."""
    return (nested(many - 1),) if many else ()


def any_values():
    """Values of every kind; none of them is a stop, a choice, a name or a fact of the samples."""
    return [
        None, True, False, 0, 1, -1, 123456789, "", "A", "two words", "bridge ", (), (None,), (1, 2), (True, True),
        [], ["bridge"], ["bridge", 0], {}, {"bridge": 0}, {0: ("bridge", 0)}, [[[]]], nested(12),
        ("bridge",), ("bridge", None), ("bridge", "0"), (["bridge"], 0), ({}, []), (("bridge", 0),),
        example_town(), example_sketch(), (example_sketch(), example_town()), [example_sketch(FACTS)],
    ]


def caught(case, error, call, *arguments, **named):
    """The error of just this class that the call raises."""
    with case.assertRaises(error) as context:
        call(*arguments, **named)
    case.assertIs(error, context.exception.__class__)
    return context.exception
