"""What several tests use: towns, sketches, and values of all kinds."""

import itertools

from sketchways.directions import Directions
from sketchways.sketches import Sketch
from sketchways.towns import Town

PLACES = (
    ("baker", 1, (), ("bread",)),
    ("bridge", 3, ((0, 2),), ("bridge",)),
    ("station", 1, (), ()),
    ("yard", 1, (), ()),
)
STREETS = (
    (("baker", 0), ("bridge", 1)),
    (("bridge", 0), ("station", 0)),
    (("bridge", 2), ("yard", 0)),
)

TOLD = (
    ("baker", ("p",), (), ("bread",)),
    ("bridge", ("a", "b", "c"), (("a", "c"),), ("bridge",)),
    ("station", ("s",), (), ()),
)
WAYS = (
    (("baker", "p"), ("bridge", "b")),
    (("bridge", "a"), ("station", "s")),
)
FACTS = (("clear", "baker", "p"), ("only", "bridge"), ("shut", "bridge", "a"))
TEXT = "until sign bridge\n  go on\ngo left 1\nhere"


def example_town():
    return Town(PLACES, STREETS)


def example_sketch(facts=()):
    return Sketch(TOLD, WAYS, facts)


def example_directions():
    return Directions(TEXT)


def star(ends, straight=(), signs=()):
    """A town with a crossing mid of so many ends, each of them joined to a blind end."""
    letters = "abcdefghijklmnopqrst"[:ends]
    crossings = (("mid", ends, straight, signs),) + tuple(("z" + letter, 1, (), ()) for letter in letters)
    return Town(crossings, tuple((("mid", k), ("z" + letter, 0)) for k, letter in enumerate(letters)))


def stop_of(word):
    """The stop of a word such as "bridge12"."""
    name = word.rstrip("0123456789")
    return name, int(word[len(name):])


def town_of(crossings, streets=""):
    """A town of these crossings, with streets such as "a0-b2 b0-b1"; each other end is joined to a blind end."""
    rows = sorted(crossings)
    pairs = [tuple(sorted(stop_of(word) for word in pair.split("-"))) for pair in streets.split()]
    joined = {stop for pair in pairs for stop in pair}
    blind = [(row[0], end) for row in rows for end in range(row[1]) if (row[0], end) not in joined]
    for k, stop in enumerate(blind):
        name = "zz" + chr(ord("a") + k // 26) + chr(ord("a") + k % 26)
        rows.append((name, 1, (), ()))
        pairs.append((stop, (name, 0)))
    return Town(tuple(sorted(rows)), tuple(sorted(pairs)))


def sketch_of(crossings, streets="", facts=()):
    """A sketch of these crossings, with streets such as "a.p-b.q b.r-c.s"."""
    pairs = [tuple(sorted(tuple(word.split(".")) for word in pair.split("-"))) for pair in streets.split()]
    return Sketch(tuple(sorted(crossings)), tuple(sorted(pairs)), tuple(sorted(facts)))


def filled_town(sketch, fillings):
    """A town that holds the sketch with these fillings, by place, and the fit; what leads off comes to blind ends."""
    rows, rounds, pairs, stops = [], [], [], {}
    for name, ends, straight, signs in sketch.crossings:
        counts, further = fillings["at", name]
        numbers = [k + sum(counts[:k]) for k in range(len(ends))]
        by_end = dict(zip(ends, numbers))
        stops.update({(name, end): f"{name}{by_end[end]}" for end in ends})
        turned = sorted(tuple(sorted((by_end[one], by_end[other]))) for one, other in straight)
        rows.append((name, len(ends) + sum(counts), tuple(turned), tuple(sorted(signs + further))))
        rounds.append(tuple(numbers))
    ways = []
    for number, (one, other) in enumerate(sketch.streets):
        way, behind = [], stops[one]
        for k, (left, right, signs) in enumerate(fillings["along", number]):
            name = "q" + "abcdefg"[number] + chr(ord("a") + k)
            rows.append((name, left + right + 2, ((0, left + 1),), signs))
            way.append((name, 0, left + 1))
            pairs.append(f"{behind}-{name}0")
            behind = f"{name}{left + 1}"
        pairs.append(f"{behind}-{stops[other]}")
        ways.append(tuple(way))
    return town_of(rows, " ".join(pairs)), (tuple(rounds), tuple(ways))


def cost_of_fit(sketch, town, fit):
    """What it costs that this town is more than the sketch, by this fit."""
    rows = {row[0]: row for row in town.crossings}
    cost = sum(rows[told[0]][1] - len(told[1]) + len(rows[told[0]][3]) - len(told[3]) for told in sketch.crossings)
    return cost + sum(rows[name][1] - 1 + len(rows[name][3]) for way in fit[1] for name, _, _ in way)


def splits(cost, many):
    """All ways to write a number as a sum of so many numbers from 0 to 4."""
    if many == 0:
        return [()] if cost == 0 else []
    return [(first, *rest) for first in range(min(cost, 4) + 1) for rest in splits(cost - first, many - 1)]


def fillings_of(sketch, place, signs, cost):
    """All fillings of this place that cost so much, with further signs of these ones."""
    barred = {fact[1] for fact in sketch.facts if fact[0] == "only"}
    free = [sign for sign in signs if sign not in barred]
    if place[0] == "along":
        if cost == 0 or ("clear", *sketch.streets[place[1]][0]) in sketch:
            return [()] if cost == 0 else []
        steps = [(many, (*sides, some)) for many in range(1, cost + 1) for k in range(many)
                 for sides in splits(many - 1 - k, 2) for some in itertools.combinations(free, k)]
        return [(step, *rest) for many, step in steps for rest in fillings_of(sketch, place, signs, cost - many)]
    name, ends, straight, told = [row for row in sketch.crossings if row[0] == place[1]][0]
    shut = [("shut", name, end) in sketch for end in ends]
    free = [] if ("full", name) in sketch else [sign for sign in free if sign not in told]
    return [(counts, some) for k in range(cost + 1) for some in itertools.combinations(free, k)
            for counts in splits(cost - k, len(ends)) if not any(a and b for a, b in zip(counts, shut))]


def all_fillings(sketch, signs, cost):
    """All fillings of all places, as dicts by place, that cost so much together, with further signs of these ones."""
    places = [("at", row[0]) for row in sketch.crossings] + [("along", k) for k in range(len(sketch.streets))]
    found = [(0, {})]
    for place in places:
        found = [(done + more, {**fillings, place: filling}) for done, fillings in found
                 for more in range(cost - done + 1) for filling in fillings_of(sketch, place, signs, more)]
    return [fillings for done, fillings in found if done == cost]


def mirrored_filling(sketch, place, filling):
    """What this filling of a place is in the mirror."""
    if place[0] == "at":
        return filling[0][::-1], filling[1]
    return tuple((right, left, signs) for left, right, signs in filling)


def nested(many):
    """A tuple in a tuple, so many deep."""
    return (nested(many - 1),) if many else ()


def any_values():
    """Values of every kind; none of them is a stop, a choice, a fact, a place, a state, a view .. of the samples."""
    return [
        None, True, False, 0, 1, -1, 123456789, "", "A", "two words", "bridge ", (), (None,), (1, 2), (True, True),
        [], ["bridge"], ["bridge", 0], {}, {"bridge": 0}, {0: ("bridge", 0)}, [[[]]], nested(12),
        ("bridge",), ("bridge", None), ("bridge", "0"), (["bridge"], 0), ({}, []), (("bridge", 0),),
        example_town(), example_sketch(), (example_sketch(), example_town()), [example_sketch(FACTS)],
        example_directions(), (example_directions(),),
    ]


def caught(case, error, call, *arguments, **named):
    """The error of just this class that the call raises."""
    with case.assertRaises(error) as context:
        call(*arguments, **named)
    case.assertIs(error, context.exception.__class__)
    return context.exception
