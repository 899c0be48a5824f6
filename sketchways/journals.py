"""Journals: tours that are read back from their texts."""

from sketchways.directions import Directions, choice_of
from sketchways.errors import BadText
from sketchways.forms import is_name
from sketchways.texts import lines_of, number_of, row_of_town
from sketchways.tours import Tour
from sketchways.towns import Town

# Behind each kind of line the kinds that may follow, and behind none the first one. The lines with | have two kinds,
# those of the directions at first and those of a reword.
FOLLOWING = {
    "": ("crossing",),
    "crossing": ("crossing", "street", "start"),
    "street": ("street", "start"),
    "start": ("first",),
    "first": ("first", "orders"),
    "orders": ("step", "go", "reword"),
    "step": ("step", "go", "reword"),
    "go": ("step", "go", "reword"),
    "reword": ("other",),
    "other": ("other", "step", "go", "reword"),
}
LAST = ("orders", "step", "go", "other")


def start_of(words):
    """The stop that these words of a line tell as the start, None if they have no such form."""
    if len(words) != 3 or not is_name(words[1]) or number_of(words[2]) is None:
        return None
    return words[1], number_of(words[2])


def value_of(line, kind):
    """What this line tells if it is of this kind, None if it is not."""
    if kind == "first" or kind == "other":
        return line[1:] if line[:1] == "|" else None
    words = line.split(" ")
    if words[0] != kind:
        return None
    if kind == "crossing" or kind == "street":
        return row_of_town(words)
    if kind == "start":
        return start_of(words)
    if kind == "go":
        return choice_of(tuple(words[1:]))
    return line if line == kind else None


def rows_of_journal(text):
    """The lines of this text, each as (kind, value)."""
    rows = []
    last = ""
    lines = lines_of(text)
    for number, line in enumerate(lines):
        found = [(kind, value_of(line, kind)) for kind in FOLLOWING[last]]
        found = [row for row in found if row[1] is not None]
        if found == []:
            raise BadText(number)
        rows.append(found[0])
        last = found[0][0]
    if last not in LAST:
        raise BadText(len(lines))
    return rows


def values_of(rows, kind):
    """What the lines of this kind tell."""
    return tuple([value for other, value in rows if other == kind])


def lines_behind(rows, at):
    """The text of the lines of other directions behind this reword."""
    lines = []
    for kind, value in rows[at + 1:]:
        if kind != "other":
            break
        lines.append(value)
    return "\n".join(lines)


def read_tour(text):
    """The tour of this text, to which its orders were given."""
    rows = rows_of_journal(text)
    town = Town(values_of(rows, "crossing"), values_of(rows, "street"))
    tour = Tour(town, Directions("\n".join(values_of(rows, "first"))), values_of(rows, "start")[0])
    for at, (kind, value) in enumerate(rows):
        if kind == "step":
            tour.step()
        if kind == "go":
            tour.go(value)
        if kind == "reword":
            tour.reword(Directions(lines_behind(rows, at)))
    return tour
