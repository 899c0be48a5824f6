"""Texts: towns and sketches as lines of words."""

from sketchways.errors import BadText
from sketchways.forms import is_name
from sketchways.sketches import Sketch
from sketchways.towns import Town

NOTHING = "-"
GROUPS = {"crossing": 0, "street": 1, "clear": 2, "full": 2, "only": 2, "shut": 2}


def in_one_word(things):
    """The word for these things."""
    return ",".join(things) if things else NOTHING


def line_of_crossing(crossing, ends):
    """The line of this crossing with this word for its ends."""
    pairs = [str(one) + "-" + str(other) for one, other in crossing[2]]
    return " ".join(["crossing", crossing[0], ends, in_one_word(pairs), in_one_word(crossing[3])])


def line_of_street(street):
    """The line of this street."""
    return " ".join(["street", *[str(word) for stop in street for word in stop]])


def show_town(town):
    """The text of this town."""
    crossings = [line_of_crossing(row, str(row[1])) for row in town.crossings]
    return "\n".join(crossings + [line_of_street(street) for street in town.streets])


def show_sketch(sketch):
    """The text of this sketch."""
    crossings = [line_of_crossing(row, in_one_word(row[1])) for row in sketch.crossings]
    streets = [line_of_street(street) for street in sketch.streets]
    return "\n".join(crossings + streets + [" ".join(fact) for fact in sketch.facts])


def number_of(word):
    """The number that this word is, None if it is none."""
    if not word.isascii() or not word.isdigit() or (word[0] == "0" and word != "0"):
        return None
    return int(word)


def name_of(word):
    """The name that this word is, None if it is none."""
    return word if is_name(word) else None


def names_of(word):
    """The names in this word, None if it has another form."""
    if word == NOTHING:
        return ()
    names = tuple(word.split(","))
    return names if all([is_name(name) for name in names]) else None


def ends_of_sketch(word):
    """The one name or more in this word, None if it has another form."""
    return None if word == NOTHING else names_of(word)


def pairs_of(word, end_of):
    """The pairs of ends in this word, None if it has another form."""
    if word == NOTHING:
        return ()
    pairs = [tuple([end_of(end) for end in pair.split("-")]) for pair in word.split(",")]
    return tuple(pairs) if all([len(pair) == 2 and None not in pair for pair in pairs]) else None


def net_row(words, ends_of, end_of):
    """What these words of a line tell of a crossing or a street, None if they have no such form."""
    if len(words) != 5:
        return None
    if words[0] == "crossing":
        row = (name_of(words[1]), ends_of(words[2]), pairs_of(words[3], end_of), names_of(words[4]))
        return None if None in row else row
    if words[0] == "street":
        row = (name_of(words[1]), end_of(words[2]), name_of(words[3]), end_of(words[4]))
        return None if None in row else (row[:2], row[2:])
    return None


def row_of_town(words):
    """What these words of a line tell of a town, None if they have no such form."""
    return net_row(words, number_of, number_of)


def row_of_sketch(words):
    """What these words of a line tell of a sketch, None if they have no such form."""
    if words[0] not in GROUPS or GROUPS[words[0]] < 2:
        return net_row(words, ends_of_sketch, name_of)
    many = 3 if words[0] in ("clear", "shut") else 2
    return tuple(words) if len(words) == many and all([is_name(word) for word in words[1:]]) else None


def lines_of(text):
    """The lines of this text."""
    if not isinstance(text, str):
        raise BadText(-1)
    return text.split("\n")


def groups_of(text, row_of):
    """What the lines tell of crossings, of streets, and of facts, as three tuples."""
    found = [[], [], []]
    last = 0
    for number, line in enumerate(lines_of(text)):
        words = line.split(" ")
        row = row_of(words)
        if row is None or GROUPS[words[0]] < last:
            raise BadText(number)
        last = GROUPS[words[0]]
        found[last].append(row)
    return [tuple(rows) for rows in found]


def read_town(text):
    """The town of this text."""
    crossings, streets, _ = groups_of(text, row_of_town)
    return Town(crossings, streets)


def read_sketch(text):
    """The sketch of this text."""
    crossings, streets, facts = groups_of(text, row_of_sketch)
    return Sketch(crossings, streets, facts)
