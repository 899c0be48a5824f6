"""Tours: walks that go on order by order, with undo and trials."""

from sketchways.directions import FIRST_STATE
from sketchways.errors import BadChoice, Finished, NothingToRedo, NothingToUndo, NoWay
from sketchways.fits import drawn
from sketchways.forms import in_order
from sketchways.texts import show_town
from sketchways.towns import is_choice
from sketchways.walking import done_at


# How a tour stands is kept as (directions, stop, state, stops, finish, been): been are the stops and states that make
# it go round when they come again. A tour's story is (now, past, ahead): how it stands, the orders that stand, each
# with how the tour stood ahead of it, and those that were undone, the last one first, each with how it stood behind it.
# A story is never changed, only replaced: so it is enough to keep one to come back to it.


def stands(directions, stop, state, stops, been):
    """How a tour stands that has not ended, and came to this stop with this state."""
    return directions, stop, state, (*stops, stop), None, (*been, (stop, state))


def ended(now, finish):
    """How a tour stands that has ended where it stood."""
    directions, stop, state, stops, _, been = now
    return directions, stop, state, stops, finish, been


def stepped(town, first, now):
    """How a tour stands behind one step of the walk, the first one of which leads to this stop."""
    directions, stop, state, stops, _, been = now
    if stop is None:
        return stands(directions, first, state, stops, been)
    done = done_at(town, directions, stop, state, None)
    if done[0] != "go":
        return ended(now, done[0])
    following = town[(stop[0], done[1])]
    if (following, done[2]) in been:
        return ended(now, "round")
    return stands(directions, following, done[2], stops, been)


def reworded(now, directions):
    """How a tour stands that goes on by these directions."""
    stop, stops = now[1], now[3]
    return directions, stop, FIRST_STATE, stops, None, ((stop, FIRST_STATE),)


def told_lines(directions):
    """The lines of directions in a journal."""
    return ["|" + line for line in directions.text.split("\n")]


def lines_of_order(order):
    """The lines of this order in a journal."""
    if order[0] == "reword":
        return ["reword", *told_lines(order[1])]
    return [" ".join([str(word) for word in order])]


class Trial:
    """A trial of a tour, for one with statement: what is done in its block is undone behind it, if it is not kept."""

    def __init__(self, tour):
        self._tour = tour
        self._story = None
        self._kept = None

    def keep(self):
        """Keep what is done in the block, if no error leaves it."""
        self._kept = True

    def __enter__(self):
        self._story = self._tour._story
        self._kept = None
        return self

    def __exit__(self, kind, value, trace):
        tour = self._tour
        if kind is not None or self._kept is None:
            tour._story = self._story


class Tour:
    """A walk in a town that goes on order by order."""

    def __init__(self, town, directions, start):
        self._first_stop = town[start]
        self._town = town
        self._start = start
        self._first_directions = directions
        self._story = ((directions, None, FIRST_STATE, (), None, ()), (), ())

    @property
    def town(self):
        """The town in which the walker goes."""
        return self._town

    @property
    def directions(self):
        """The directions by which the walker goes now."""
        return self._story[0][0]

    @property
    def stop(self):
        """The stop at which the walker stands, None ahead of the first step."""
        return self._story[0][1]

    @property
    def state(self):
        """The state in which the walker is."""
        return self._story[0][2]

    @property
    def stops(self):
        """All stops at which the walker stood so far, one by one."""
        return self._story[0][3]

    @property
    def finish(self):
        """How the walk has ended, None if it has not."""
        return self._story[0][4]

    @property
    def orders(self):
        """How many orders stand."""
        return len(self._story[1])

    @property
    def journal(self):
        """The text by which the tour can be read again."""
        lines = [show_town(self._town), "start " + self._start[0] + " " + str(self._start[1])]
        lines = lines + told_lines(self._first_directions) + ["orders"]
        return "\n".join(lines + [line for order, now in self._story[1] for line in lines_of_order(order)])

    def _give(self, order, behind):
        now, past, ahead = self._story
        self._story = (behind, (*past, (order, now)), ())

    def _need_going(self):
        finish = self._story[0][4]
        if finish is not None:
            raise Finished(finish)

    def step(self):
        """Go one step of the walk by the directions."""
        self._need_going()
        self._give(("step",), stepped(self._town, self._first_stop, self._story[0]))

    def go(self, choice):
        """Go by this choice, by hand."""
        if not is_choice(choice):
            raise BadChoice(choice)
        self._need_going()
        directions, stop, state, stops, _, been = self._story[0]
        end = None if stop is None else self._town.taken(stop, choice)
        if end is None:
            raise NoWay(choice)
        self._give(("go", *choice), stands(directions, self._town[(stop[0], end)], state, stops, ()))

    def reword(self, directions):
        """Go by these directions from now on."""
        self._give(("reword", directions), reworded(self._story[0], directions))

    def undo(self):
        """Take back the last order that stands."""
        now, past, ahead = self._story
        if past == ():
            raise NothingToUndo(None)
        order, before = past[-1]
        self._story = (before, past[:-1], ((order, now), *ahead))

    def redo(self):
        """Give the last order again that was taken back."""
        now, past, ahead = self._story
        if ahead == ():
            raise NothingToRedo(None)
        order, behind = ahead[0]
        self._story = (behind, (*past, (order, now)), ahead[1:])

    def tried(self, look, *, keep=False):
        """What look returns of this tour; what it does with it is undone, unless keep is True."""
        story = self._story
        kept = None
        try:
            found = look(self)
            if keep is True:
                kept = True
            return found
        finally:
            if kept is None:
                self._story = story

    def trial(self):
        """A trial of this tour, for one with statement."""
        return Trial(self)

    def sketch(self):
        """What is drawn of the crossings of the start and of all stops so far."""
        names = {self._start[0]: True}
        for stop in self._story[0][3]:
            names[stop[0]] = True
        return drawn(self._town, tuple(in_order(list(names))))

    def copy(self):
        """An independent tour, alike in all."""
        other = Tour(self._town, self._first_directions, self._start)
        other._story = self._story
        return other

    def stop_behind(self):
        """The stop at the other end of the street by which the walker came, the start ahead of the first step."""
        stop = self._story[0][1]
        return self._start if stop is None else self._town[stop]

    def __eq__(self, other):
        if not isinstance(other, Tour):
            return False
        if self._town != other._town or self._start != other._start:
            return False
        if self._first_directions != other._first_directions:
            return False
        return [row[0] for row in self._story[1]] == [row[0] for row in other._story[1]]
