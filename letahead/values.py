"""What the other files ask of plain values."""

LETTERS = "abcdefghijklmnopqrstuvwxyz"
LONGEST_NAME = 8


def is_name(thing):
    """Tell whether thing is a NAME: a string of 1 to 8 letters a to z."""
    if not isinstance(thing, str) or not 1 <= len(thing) <= LONGEST_NAME:
        return False
    return all([letter in LETTERS for letter in thing])


def is_names(thing):
    """Tell whether thing is a tuple of NAMEs, as a QUEUE is."""
    return isinstance(thing, tuple) and all([is_name(part) for part in thing])


def tuples(thing):
    """Return thing with a tuple in the place of each list in it, at any depth."""
    if isinstance(thing, (list, tuple)):
        return tuple([tuples(part) for part in thing])
    return thing


def fits(pair, pairs):
    """Tell whether one Book can have this pair of KINDS and all these pairs, the keys of a dict."""
    one, other = pair
    return one != other and (other, one) not in pairs


def is_numbers(thing):
    """Tell whether thing is a tuple of numbers, of which True and False are none."""
    if not isinstance(thing, tuple):
        return False
    return all([isinstance(part, int) and not isinstance(part, bool) for part in thing])
