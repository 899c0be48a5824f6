"""Building: a town that holds a sketch, of what fills its places."""

from sketchways.fillings import filled_crossing, numbers_by_end, passed_crossing
from sketchways.forms import in_order
from sketchways.towns import Town, in_pairs

LETTERS = "abcdefghijklmnopqrstuvwxyz"


def name_of_number(number):
    """A name for each number from 0: a to z, then aa and so on."""
    name = LETTERS[number % 26]
    while number >= 26:
        number = number // 26 - 1
        name = LETTERS[number % 26] + name
    return name


class Site:
    """A town that is being built; its further crossings get names that the sketch does not have."""

    def __init__(self, names):
        self.rows = []
        self.pairs = []
        self._barred = names
        self._named = 0

    def new_name(self):
        """A name that no crossing has so far."""
        name = name_of_number(self._named)
        self._named += 1
        return self.new_name() if name in self._barred else name

    def close(self):
        """Join each end that no street has to a blind end."""
        used = {stop: True for pair in self.pairs for stop in pair}
        stops = [(row[0], end) for row in self.rows for end in range(row[1])]
        for stop in stops:
            if stop not in used:
                name = self.new_name()
                self.rows.append((name, 1, (), ()))
                self.pairs.append((stop, (name, 0)))


def build_street(site, one, other, filling):
    """Build this street between two stops; its way, as a fit has it."""
    way = []
    behind = one
    for step in filling:
        name = site.new_name()
        across = step[0] + 1
        site.rows.append(passed_crossing(name, step))
        site.pairs.append((behind, (name, 0)))
        way.append((name, 0, across))
        behind = (name, across)
    site.pairs.append((behind, other))
    return tuple(way)


def built(sketch, fillings):
    """The town in which this fills each place of the sketch, and its fit."""
    site = Site([row[0] for row in sketch.crossings])
    rounds = []
    stops = {}
    for told in sketch.crossings:
        filling = fillings[("at", told[0])]
        numbers = numbers_by_end(told, filling[0])
        site.rows.append(filled_crossing(told, filling))
        rounds.append(tuple([numbers[end] for end in told[1]]))
        for end in told[1]:
            stops[(told[0], end)] = (told[0], numbers[end])
    ways = []
    for number, (one, other) in enumerate(sketch.streets):
        ways.append(build_street(site, stops[one], stops[other], fillings[("along", number)]))
    site.close()
    return Town(tuple(in_order(site.rows)), in_pairs(site.pairs)), (tuple(rounds), tuple(ways))
