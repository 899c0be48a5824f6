"""A desk: a tour by lines of words, each with an answer."""

from sketchways.directions import choice_of
from sketchways.errors import BadLine
from sketchways.fits import name_of_end
from sketchways.judging import verdict
from sketchways.texts import NOTHING, in_one_word

WORDS = ("step", "undo", "redo", "where", "view", "finish", "orders")


def is_line(words):
    """Whether these words are a line that a desk answers."""
    if words[0] == "go":
        return choice_of(words[1:]) is not None
    if words[0] == "kept":
        return len(words) == 3 and words[1] != "" and words[2] != ""
    return len(words) == 1 and words[0] in WORDS


def told_stop(stop):
    """The words for this stop, or for none."""
    return NOTHING if stop is None else stop[0] + " " + str(stop[1])


class Desk:
    """A desk at which orders are given to a tour, and questions are asked about it."""

    def __init__(self, tour):
        self._tour = tour

    @property
    def tour(self):
        """The very tour."""
        return self._tour

    def say(self, line):
        """The answer to this line."""
        if not isinstance(line, str) or "\n" in line:
            raise BadLine(line)
        words = tuple(line.split(" "))
        if not is_line(words):
            raise BadLine(line)
        if words[0] == "kept":
            return self._judged(words[1], words[2])
        if words[0] == "step" or words[0] == "go":
            return self._gone(words)
        if words[0] == "undo" or words[0] == "redo":
            return self._changed(words[0])
        return self._told(words[0])

    def _gone(self, words):
        if words[0] == "step":
            self._tour.step()
        else:
            self._tour.go(choice_of(words[1:]))
        return told_stop(self._tour.stop) if self._tour.finish is None else self._tour.finish

    def _changed(self, word):
        if word == "undo":
            self._tour.undo()
        else:
            self._tour.redo()
        return "ok"

    def _told(self, word):
        if word == "where":
            return told_stop(self._tour.stop)
        if word == "view":
            return self._view()
        if word == "orders":
            return str(self._tour.orders)
        return NOTHING if self._tour.finish is None else self._tour.finish

    def _view(self):
        if self._tour.stop is None:
            return NOTHING
        left, right, on, signs = self._tour.town.view(self._tour.stop)
        return " ".join([str(left), str(right), "yes" if on else "no", in_one_word(signs)])

    def _judged(self, wish, name):
        name_behind, end = self._tour.stop_behind()
        start = (name_behind, name_of_end(end))
        return verdict(self._tour.sketch(), self._tour.directions, start, name, wish)[0]
