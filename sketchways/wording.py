"""Wordings: the cheapest choice of other lines by which directions keep a wish."""

from sketchways.directions import Directions
from sketchways.errors import BadOffers, BadText, TooMany
from sketchways.fillings import subsets
from sketchways.forms import ascends, have_heads, in_order, is_integer, is_row, is_same
from sketchways.judging import judge_of, need_walk

MOST_OFFERS = 4
MOST_PRICE = 9


def is_offer(value, many):
    """Whether this is (line, text, price) with one of so many lines."""
    if not is_row(value, 3):
        return False
    line, text, price = value
    if not is_integer(line) or not 0 <= line < many:
        return False
    if not isinstance(text, str) or "\n" in text:
        return False
    return is_integer(price) and 0 <= price <= MOST_PRICE


def are_offers(value, many):
    """Whether these are 1 to 4 offers, ascending, by different ones of so many lines."""
    if not isinstance(value, tuple) or not 1 <= len(value) <= MOST_OFFERS:
        return False
    return all([is_offer(offer, many) for offer in value]) and ascends([offer[0] for offer in value])


def reworded(directions, some):
    """The directions with the lines of these offers."""
    lines = directions.text.split("\n")
    for line, text, price in some:
        lines[line] = text
    return Directions("\n".join(lines))


def choices_of(directions, offers):
    """All choices of these offers, in order, each as (price, lines, directions)."""
    if not are_offers(offers, len(directions.text.split("\n"))):
        raise BadOffers(offers)
    found = {}
    for some in subsets(offers):
        price = sum([offer[2] for offer in some])
        try:
            found[(price, tuple([offer[0] for offer in some]))] = reworded(directions, some)
        except (BadText, TooMany):
            raise BadOffers(offers) from None
    return [(*choice, found[choice]) for choice in in_order(list(found))]


class Wording:
    """The choices of other lines up to the first one by which the wish is kept."""

    def __init__(self, sketch, walk, choices):
        start, goal, wish = walk
        self._walk = walk
        self._judges = {}
        self._chosen = None
        self._reasons = []
        for price, lines, directions in choices:
            self._judges[lines] = judge_of(sketch, directions)
            found = self._judges[lines].judged(start, goal, wish)
            if found[0] == "kept":
                self._chosen = ("choice", price, lines, found[1])
                break
            self._reasons.append((lines, found[1], found[2]))

    def told(self):
        """What is returned of it."""
        reasons = tuple(self._reasons)
        return ("none", reasons) if self._chosen is None else (*self._chosen, reasons)

    def accepts(self, value):
        """Whether this may be returned of it."""
        start, goal, wish = self._walk
        if self._chosen is None:
            return is_row(value, 2) and value[0] == "none" and self.accepts_reasons(value[1])
        if not is_row(value, 5) or not is_same(value[:3], self._chosen[:3]):
            return False
        if not self._judges[self._chosen[2]].accepts_kept(start, goal, wish, value[3]):
            return False
        return self.accepts_reasons(value[4])

    def accepts_reasons(self, value):
        """Whether these are the lines of the choices ahead of it, with towns that show that it is broken by them."""
        start, goal, wish = self._walk
        if not have_heads(value, self._reasons, 3):
            return False
        return all([self._judges[row[0]].accepts_broken(start, goal, wish, row[1:]) for row in value])


def worded(sketch, directions, start, goal, wish, offers):
    """The choices of these offers up to the first one by which the wish is kept."""
    need_walk(sketch, start, goal, wish)
    return Wording(sketch, (start, goal, wish), choices_of(directions, offers))


def cheapest(sketch, directions, start, goal, wish, offers):
    """The first choice by which the wish is kept, with the reasons why none ahead of it is; or ("none", reasons)."""
    return worded(sketch, directions, start, goal, wish, offers).told()


def shows_cheapest(sketch, directions, start, goal, wish, offers, value):
    """Whether this is what cheapest may return, with any cases, towns and fits that show it."""
    return worded(sketch, directions, start, goal, wish, offers).accepts(value)
