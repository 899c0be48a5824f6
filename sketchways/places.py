"""Places of a sketch: what may be there, and how it answers the questions of a walker."""

from sketchways.directions import is_state
from sketchways.errors import BadFilling, BadKnown, BadPlace, BadQuestion
from sketchways.fillings import MOST_FURTHER, answer_along, answer_at, placed_crossing
from sketchways.forms import are_names, ascends, in_order, is_integer, is_row
from sketchways.sketches import only_signs, street_ends, told_crossing
from sketchways.ways import Walker, Walkers

MOST_STEPS = 500
MOST_SIGNS = 8


def is_place(sketch, value):
    """Whether this is a place of the sketch."""
    if not is_row(value, 2):
        return False
    if value[0] == "at":
        return value[1] in [row[0] for row in sketch.crossings]
    return value[0] == "along" and is_integer(value[1]) and 0 <= value[1] < len(sketch.streets)


def is_count(value):
    """Whether this is a number of further ends of a gap or a side."""
    return is_integer(value) and 0 <= value <= MOST_FURTHER


def are_further_signs(value, barred):
    """Whether these signs may stand in a filling where these ones may not."""
    return are_names(value) and len(value) <= MOST_SIGNS and not any([sign in barred for sign in value])


def fills_crossing(sketch, name, value):
    """Whether this is a filling of this told crossing."""
    told = told_crossing(sketch, name)
    if not is_row(value, 2) or not is_row(value[0], len(told[1])):
        return False
    counts, signs = value
    if not all([is_count(count) for count in counts]):
        return False
    if any([count > 0 and ("shut", name, end) in sketch for end, count in zip(told[1], counts)]):
        return False
    return are_further_signs(signs, [*told[3], *only_signs(sketch)]) and (signs == () or ("full", name) not in sketch)


def is_step(sketch, value):
    """Whether this is a step of a street."""
    if not is_row(value, 3) or not is_count(value[0]) or not is_count(value[1]):
        return False
    return are_further_signs(value[2], only_signs(sketch))


def fills_street(sketch, number, value):
    """Whether this is a filling of this told street."""
    if not isinstance(value, tuple) or len(value) > MOST_STEPS:
        return False
    if value != () and ("clear", *sketch.streets[number][0]) in sketch:
        return False
    return all([is_step(sketch, step) for step in value])


def is_filling(sketch, place, value):
    """Whether this is a filling of this place."""
    if place[0] == "at":
        return fills_crossing(sketch, place[1], value)
    return fills_street(sketch, place[1], value)


def is_way_in(sketch, place, value):
    """Whether this is an end by which a walker comes to this crossing, or a side at which one enters this street."""
    if place[0] == "at":
        return value in street_ends(sketch, place[1])
    return is_integer(value) and value in (0, 1)


def is_question(sketch, walkers, place, value):
    """Whether this is a question of these walkers to this place."""
    if not is_row(value, 1 + len(walkers.all_states)) or not is_way_in(sketch, place, value[0]):
        return False
    return all([is_state(state, states) for state, states in zip(value[1:], walkers.all_states)])


def is_answer(sketch, walkers, place, value):
    """Whether this is of the form of an answer of this place to these walkers."""
    if value in walkers.endings:
        return True
    if not isinstance(value, tuple) or value[:1] != (("go",) if place[0] == "at" else ("out",)):
        return False
    return is_question(sketch, walkers, place, value[1:])


def are_known(sketch, walkers, place, value):
    """Whether these are different questions to this place with answers, ascending."""
    if not isinstance(value, tuple) or not all([is_row(row, 2) for row in value]):
        return False
    if not all([is_question(sketch, walkers, place, question) for question, told in value]):
        return False
    if not all([is_answer(sketch, walkers, place, told) for question, told in value]):
        return False
    return ascends([question for question, told in value])


def need_place(sketch, place):
    """Raise BadPlace if this is no place of the sketch."""
    if not is_place(sketch, place):
        raise BadPlace(place)


def need_known(sketch, walkers, place, known):
    """Raise BadKnown if this cannot be known of this place."""
    if not are_known(sketch, walkers, place, known):
        raise BadKnown(known)


def need_question(sketch, walkers, place, question):
    """Raise BadQuestion if this is no question to this place."""
    if not is_question(sketch, walkers, place, question):
        raise BadQuestion(question)


def agreeing(ways, known):
    """The numbers of the fillings by which all these questions have these answers."""
    found = list(range(len(ways.fillings)))
    for question, told in known:
        answers = ways.answers(question)
        found = [k for k in found if answers[k] == told]
    return found


def different_answers(ways, fillings, question):
    """The ascending list of all answers to this question of the fillings with these numbers."""
    answers = ways.answers(question)
    return in_order(list({answers[k]: True for k in fillings}))


def answer(sketch, directions, place, filling, question):
    """The answer of this place with this filling."""
    need_place(sketch, place)
    if not is_filling(sketch, place, filling):
        raise BadFilling(filling)
    need_question(sketch, Walkers([directions]), place, question)
    walker = Walker(directions)
    if place[0] == "along":
        return answer_along(walker, filling, question)
    ends = street_ends(sketch, place[1])
    return answer_at(walker, placed_crossing(told_crossing(sketch, place[1]), ends, filling), question)


def filled(sketch, directions, place, known):
    """The (cost, filling) of a least filling by which all these questions have these answers, None if there is none."""
    need_place(sketch, place)
    walkers = Walkers([directions])
    need_known(sketch, walkers, place, known)
    ways = walkers.ways(sketch, place)
    found = agreeing(ways, known)
    return ways.fillings[found[0]] if found else None


def possible(sketch, directions, place, known, question):
    """All answers to this question by the fillings by which all known questions have their answers, ascending."""
    need_place(sketch, place)
    walkers = Walkers([directions])
    need_known(sketch, walkers, place, known)
    need_question(sketch, walkers, place, question)
    ways = walkers.ways(sketch, place)
    return tuple(different_answers(ways, agreeing(ways, known), question))
