"""The forms that values must have, and their order: what all other modules share."""


def is_integer(value):
    """Whether this is an int that is not a bool."""
    return isinstance(value, int) and not isinstance(value, bool)


def is_name(value):
    """Whether this is a string of 1 to 8 letters a to z."""
    if not isinstance(value, str) or len(value) > 8:
        return False
    # Of the letters that are lower case just a to z are ASCII.
    return value.isascii() and value.isalpha() and value.islower()


def is_row(value, many):
    """Whether this is a tuple of so many things."""
    return isinstance(value, tuple) and len(value) == many


def ascends(rows):
    """Whether each of these things comes before the next one, in Python's order."""
    return all([rows[k] < rows[k + 1] for k in range(len(rows) - 1)])


def are_names(value):
    """Whether this is an ascending tuple of names."""
    return isinstance(value, tuple) and all([is_name(name) for name in value]) and ascends(value)


def is_word(value):
    """Whether this is a string or an integer, as the parts of a stop are."""
    return isinstance(value, str) or is_integer(value)


def is_told(value, told):
    """Whether this is an end, or a stop, that is a key of this dict."""
    # The kinds are asked ahead of the keys: True would be found as 1, and a list raises a TypeError.
    if is_row(value, 2):
        return is_word(value[0]) and is_word(value[1]) and value in told
    return is_word(value) and value in told


def is_pair(value, told):
    """Whether this is a pair (one, other) of keys of this dict, one < other."""
    if not is_row(value, 2):
        return False
    one, other = value
    return is_told(one, told) and is_told(other, told) and one < other


def are_pairs(value, told):
    """Whether this is an ascending tuple of pairs of keys of this dict, with no key in two pairs."""
    if not isinstance(value, tuple) or not all([is_pair(pair, told) for pair in value]):
        return False
    used = [one for pair in value for one in pair]
    return ascends(value) and len(set(used)) == len(used)


def is_same(one, other):
    """Whether these are equal, with no bool in the place of an integer in any tuple."""
    if isinstance(one, tuple) and isinstance(other, tuple):
        return len(one) == len(other) and all([is_same(one[k], other[k]) for k in range(len(one))])
    return isinstance(one, bool) == isinstance(other, bool) and one == other


def have_heads(value, rows, many):
    """Whether this is a tuple of tuples of so many things, the first ones of which are those of these rows."""
    if not is_row(value, len(rows)) or not all([is_row(row, many) for row in value]):
        return False
    return all([is_same(row[0], told[0]) for row, told in zip(value, rows)])


def in_order(rows):
    """The list of these things, sorted in Python's order."""
    # Written out, as sorted may not be given tuples in a package in which a class has an order.
    if len(rows) < 2:
        return list(rows)
    middle = len(rows) // 2
    return merged(in_order(rows[:middle]), in_order(rows[middle:]))


def merged(low, high):
    """The sorted list of what stands in two sorted lists."""
    both = []
    done = 0
    for row in high:
        while done < len(low) and low[done] <= row:
            both.append(low[done])
            done += 1
        both.append(row)
    return both + low[done:]
