"""Directions: a text of lines that tells a walker what to do at each crossing."""

from sketchways.errors import BadState, BadText, BadView, TooMany
from sketchways.forms import are_names, in_order, is_integer, is_name, is_row

MOST_LINES = 20
MOST_HEADS = 3
MOST_SIGNS = 4
MOST_STATES = 12
MOST_ON_SIDE = 19
FIRST_STATE = (-1,)
OTHER_SIDE = {"left": "right", "right": "left"}


def choice_of(words):
    """The choice that these words stand for, None if they stand for none."""
    if words == ("on",) or words == ("back",):
        return words
    if len(words) == 2 and words[0] in ("left", "right") and words[1] in ("1", "2", "3"):
        return words[0], int(words[1])
    return None


def is_condition(words):
    """Whether these words are a condition."""
    if words[:1] == ("not",):
        words = words[1:]
    if words in (("on",), ("left",), ("right",)):
        return True
    if len(words) != 2:
        return False
    if words[0] == "sign":
        return is_name(words[1])
    return words[0] == "ends" and words[1] in ("1", "2", "3", "4")


def is_line(words):
    """Whether these words are a line, wherever it stands."""
    if words[0] == "go":
        return choice_of(words[1:]) is not None
    if words[0] in ("if", "until", "while"):
        return is_condition(words[1:])
    return words in (("here",), ("else",), ("again", "2"), ("again", "3"))


def is_head(words):
    """Whether a block stands behind this line."""
    return words[0] not in ("go", "here")


def row_of(line):
    """This line as (deep, words), None if it is of no form."""
    blanks = len(line) - len(line.lstrip(" "))
    words = tuple(line[blanks:].split(" "))
    return (blanks // 2, words) if blanks % 2 == 0 and is_line(words) else None


def ends_if(rows, deep):
    """Whether an else that is so deep would stand behind the block of its if."""
    above = [row for row in rows if row[0] <= deep]
    return above != [] and above[-1][0] == deep and above[-1][1][0] == "if"


def may_stand(rows, deep, words):
    """Whether this line may stand behind these ones."""
    if len(rows) == MOST_LINES:
        return False
    if words == ("else",) and not ends_if(rows, deep):
        return False
    if rows == []:
        return deep == 0
    if is_head(rows[-1][1]):
        return deep == rows[-1][0] + 1 and deep <= MOST_HEADS
    return deep <= rows[-1][0]


def rows_of(text):
    """The lines of this text, each as (deep, words)."""
    if not isinstance(text, str):
        raise BadText(-1)
    rows = []
    for number, line in enumerate(text.split("\n")):
        row = row_of(line)
        if row is None or not may_stand(rows, row[0], row[1]):
            raise BadText(number)
        rows.append(row)
    if is_head(rows[-1][1]):
        raise BadText(len(rows))
    return rows


def text_of(rows):
    """The text of these lines."""
    return "\n".join(["  " * deep + " ".join(words) for deep, words in rows])


def signs_of(rows):
    """The ascending tuple of the names of all signs in the conditions of these lines."""
    # The word ahead of the last one is this one in no line but in such a condition.
    return tuple(in_order(list({words[-1]: True for deep, words in rows if words[-2:-1] == ("sign",)})))


def head_of(rows, at):
    """The number of the head of the block in which this line stands, None if it stands in none."""
    above = [k for k in range(at) if rows[k][0] < rows[at][0]]
    return above[-1] if above else None


def rounds_around(rows, at):
    """For each again around this line, the outermost first, how many rounds it has."""
    found = []
    head = head_of(rows, at)
    while head is not None:
        if rows[head][1][0] == "again":
            found = [int(rows[head][1][1]), *found]
        head = head_of(rows, head)
    return found


def counts_of(rounds):
    """How many rounds may be still to come in such agains: all tuples, ascending."""
    found = [()]
    for many in rounds:
        found = [(*counts, k) for counts in found for k in range(many)]
    return found


def states_of(rows):
    """The ascending tuple of all states of directions with these lines."""
    found = [FIRST_STATE]
    for at, (deep, words) in enumerate(rows):
        if words[0] == "go":
            found = found + [(at, *counts) for counts in counts_of(rounds_around(rows, at))]
    return tuple(found)


def end_of_block(rows, at):
    """The number of the line behind this one and its block."""
    after = at + 1
    while after < len(rows) and rows[after][0] > rows[at][0]:
        after += 1
    return after


def else_of(rows, at):
    """The number of the else of this line, None if it has none."""
    after = end_of_block(rows, at)
    return after if rows[after:after + 1] == [(rows[at][0], ("else",))] else None


def behind(rows, at, counts):
    """What comes when this line and its block are done: the line, and the rounds still to come around it."""
    while True:
        other = else_of(rows, at)
        after = end_of_block(rows, at if other is None else other)
        if after < len(rows) and rows[after][0] == rows[at][0]:
            return after, counts
        at = head_of(rows, at)
        if at is None:
            return len(rows), counts
        word = rows[at][1][0]
        if word == "until" or word == "while":
            return at, counts
        if word == "again":
            if counts[-1] > 0:
                return at + 1, (*counts[:-1], counts[-1] - 1)
            counts = counts[:-1]


def below(rows, at, counts, view):
    """What comes when a walker with this view comes to this head, as behind tells it."""
    words = rows[at][1]
    if words[0] == "again":
        return at + 1, (*counts, int(words[1]) - 1)
    if holds(words[1:], view) == (words[0] != "until"):
        return at + 1, counts
    other = else_of(rows, at)
    return behind(rows, at, counts) if other is None else (other + 1, counts)


def holds(words, view):
    """Whether this condition holds where a walker has this view."""
    if words[0] == "not":
        return not holds(words[1:], view)
    left, right, on, signs = view
    if words[0] == "sign":
        return words[1] in signs
    if words[0] == "on":
        return on
    if words[0] == "ends":
        # If nothing goes straight on, the same ends are on both sides.
        return (left + right + 1 if on else left) >= int(words[1])
    return (left if words[0] == "left" else right) > 0


def is_state(value, states):
    """Whether this is one of these states."""
    return isinstance(value, tuple) and all([is_integer(k) for k in value]) and value in states


def is_view(value):
    """Whether this is what a walker may see: (left, right, on, signs)."""
    if not is_row(value, 4):
        return False
    left, right, on, signs = value
    if not all([is_integer(side) and 0 <= side <= MOST_ON_SIDE for side in (left, right)]):
        return False
    return isinstance(on, bool) and (on or left == right) and are_names(signs)


def mirrored_words(words):
    """This line with left and right exchanged, but for a sign of such a name."""
    return tuple([word if words[k - 1] == "sign" else OTHER_SIDE.get(word, word) for k, word in enumerate(words)])


class Directions:
    """Directions: their text, and what a walker does by them."""

    def __init__(self, text):
        rows = rows_of(text)
        signs = signs_of(rows)
        if len(signs) > MOST_SIGNS:
            raise TooMany(MOST_SIGNS)
        states = states_of(rows)
        if len(states) > MOST_STATES:
            raise TooMany(MOST_STATES)
        self._text = text
        self._rows = rows
        self._signs = signs
        self._states = states

    @property
    def text(self):
        """The text, as passed."""
        return self._text

    @property
    def states(self):
        """The ascending tuple of all states."""
        return self._states

    @property
    def signs(self):
        """The ascending tuple of the names of all signs in conditions."""
        return self._signs

    def act(self, state, view):
        """What a walker with this view does behind this state."""
        if not is_state(state, self._states):
            raise BadState(state)
        if not is_view(view):
            raise BadView(view)
        at, counts = (0, ()) if state == FIRST_STATE else behind(self._rows, state[0], state[1:])
        asked = {}
        # As the view stays, a line that comes again with the same rounds comes for ever.
        while (at, counts) not in asked:
            if at == len(self._rows):
                return ("lost",)
            words = self._rows[at][1]
            if words[0] == "here":
                return ("here",)
            if words[0] == "go":
                return "go", choice_of(words[1:]), (at, *counts)
            asked[(at, counts)] = True
            at, counts = below(self._rows, at, counts, view)
        return ("round",)

    def __eq__(self, other):
        return isinstance(other, Directions) and self._text == other._text

    def __invert__(self):
        return Directions(text_of([(deep, mirrored_words(words)) for deep, words in self._rows]))

    def __rshift__(self, other):
        if not isinstance(other, Directions):
            return NotImplemented
        rows = []
        for deep, words in self._rows:
            if words == ("here",):
                rows = rows + [(deep + more, row) for more, row in other._rows]
            else:
                rows = rows + [(deep, words)]
        return Directions(text_of(rows))
