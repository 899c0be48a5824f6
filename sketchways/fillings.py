"""Fillings: what they say of a place, which ones there are, and what the walkers do there."""

from sketchways.forms import in_order
from sketchways.sketches import told_crossing
from sketchways.towns import in_pairs

MOST_FURTHER = 4
ENDINGS = (("here",), ("lost",), ("leaves",), ("round",))
ENDINGS_OF_TWO = (("apart",), ("end", "here"), ("end", "lost"), ("end", "leaves"), ("end", "round"))


def numbers_by_end(told, counts):
    """The numbers that the ends of this told crossing have where so many further ends stand behind each."""
    return {end: k + sum(counts[:k]) for k, end in enumerate(told[1])}


def filled_crossing(told, filling):
    """This told crossing, with this filling, as a town has it."""
    name, ends, straight, signs = told
    counts, further = filling
    numbers = numbers_by_end(told, counts)
    pairs = in_pairs([(numbers[one], numbers[other]) for one, other in straight])
    return name, len(ends) + sum(counts), pairs, tuple(in_order([*signs, *further]))


def passed_crossing(name, step):
    """This step of a street as a town has it, where the side 0 of the street is behind its end 0."""
    left, right, signs = step
    return name, left + right + 2, ((0, left + 1),), signs


def placed_crossing(told, ends, filling):
    """This filled crossing, the numbers of its told ends, and which numbers these ends of told streets have."""
    numbers = numbers_by_end(told, filling[0])
    return filled_crossing(told, filling), numbers, {numbers[end]: end for end in ends}


def answer_at(walker, placed, question):
    """The answer of a placed crossing to a walker."""
    crossing, numbers, ends = placed
    done = walker.done(crossing, numbers[question[0]], question[1])
    if done[0] != "go":
        return done
    return ("go", ends[done[1]], done[2]) if done[1] in ends else ("leaves",)


def answer_of_step(walker, step, question):
    """The answer of a street whose filling is this one step."""
    across = step[0] + 1
    done = walker.done(passed_crossing("", step), across if question[0] == 1 else 0, question[1])
    if done[0] != "go":
        return done
    if done[1] not in (0, across):
        return ("leaves",)
    return "out", 1 if done[1] == across else 0, done[2]


def answer_along(walker, filling, question):
    """The answer of a told street with this filling."""
    side, state = question
    at = len(filling) - 1 if side == 1 else 0
    been = {}
    while 0 <= at < len(filling):
        if (at, side, state) in been:
            return ("round",)
        been[(at, side, state)] = True
        done = answer_of_step(walker, filling[at], (side, state))
        if done[0] != "out":
            return done
        # Who comes out at one side of a step comes to the next one from its other side.
        side = 1 - done[1]
        state = done[2]
        at = at + 1 if side == 0 else at - 1
    return "out", 1 - side, state


def together(answers):
    """What one walker does, or two who go together do, by what each of them does at the same stop."""
    if len(answers) == 1:
        return answers[0]
    one, other = answers
    if one[:2] != other[:2]:
        return ("apart",)
    return (*one, other[2]) if len(one) == 3 else ("end", one[0])


def subsets(rows):
    """All tuples of some of these things, in their order; each stands behind those of some of its own."""
    found = [()]
    for row in rows:
        found = found + [(*some, row) for some in found]
    return found


def crossing_fillings(limits, signs):
    """The fillings, as (cost, filling), least cost first, of a crossing with these limits of further ends and signs."""
    rows = [()]
    for most in limits:
        rows = [(*counts, k) for counts in rows for k in range(most + 1)]
    return in_order([(sum(counts) + len(some), (counts, some)) for counts in rows for some in subsets(signs)])


def all_steps(signs):
    """All steps with some of these signs, each as (cost, step), least cost first."""
    sides = [(left, right) for left in range(MOST_FURTHER + 1) for right in range(MOST_FURTHER + 1)]
    rows = [(left, right, some) for left, right in sides for some in subsets(signs)]
    return in_order([(1 + left + right + len(some), (left, right, some)) for left, right, some in rows])


def limits_of(sketch, name):
    """How many further ends may stand behind each end of this told crossing."""
    return tuple([0 if ("shut", name, end) in sketch else MOST_FURTHER for end in told_crossing(sketch, name)[1]])


def signs_along(sketch, signs):
    """Those of these signs that may stand at further crossings."""
    return tuple([sign for sign in signs if ("only", sign) not in sketch])


def signs_at(sketch, name, signs):
    """Those of these signs that may stand, or not, at this told crossing."""
    if ("full", name) in sketch:
        return ()
    there = told_crossing(sketch, name)[3]
    return tuple([sign for sign in signs_along(sketch, signs) if sign not in there])
