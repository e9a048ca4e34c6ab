"""PAIRS, QUEUES and ORDERS as texts, and back."""

from letahead.errors import BadText
from letahead.values import fits, is_name

NOTHING = "-"
DIGITS = "0123456789"


def pairs_text(pairs):
    """Return the text of PAIRS."""
    return text_of_pieces([f"{one} {other}" for one, other in pairs], "; ")


def queue_text(queue):
    """Return the text of a QUEUE."""
    return text_of_pieces(queue, " ")


def order_text(order):
    """Return the text of an ORDER."""
    return text_of_pieces([str(person) for person in order], " ")


def pairs_from(text):
    """Return the PAIRS of which this is the text; BadText(piece) for the first wrong piece."""
    # A dict keeps its keys in the order in which they came, and every pair is greater than ().
    pairs = {}
    last = ()
    for number, piece in enumerate(pieces(text, "; ")):
        pair = tuple(piece.split(" "))
        if not is_written_pair(pair) or not fits(pair, pairs) or pair <= last:
            raise BadText(number)
        pairs[pair] = True
        last = pair
    return tuple(pairs)


def queue_from(text):
    """Return the QUEUE of which this is the text; BadText(piece) for the first wrong piece."""
    kinds = pieces(text, " ")
    for number, piece in enumerate(kinds):
        if not is_name(piece):
            raise BadText(number)
    return tuple(kinds)


def order_from(text):
    """Return the unlike numbers of which this is the text; BadText(piece) for the first wrong piece."""
    # Without needless zeros unlike numbers are unlike words.
    words = {}
    for number, piece in enumerate(pieces(text, " ")):
        if not is_written_number(piece) or piece in words:
            raise BadText(number)
        words[piece] = True
    return tuple([int(word) for word in words])


def text_of_pieces(parts, between):
    """Return the text that has these pieces, with these signs between two of them."""
    # A property runs this, so it calls nothing by the name join: own methods of that name change their objects.
    text = ""
    for part in parts:
        text = f"{text}{between}{part}"
    return text[len(between):] or NOTHING


def pieces(text, between):
    """Return the list of the pieces of a text that has these signs between two of them."""
    if text == NOTHING:
        return []
    return text.split(between)


def is_written_pair(words):
    """Tell whether these words are two KINDS."""
    return len(words) == 2 and all([is_name(word) for word in words])


def is_written_number(word):
    """Tell whether word is a number from 0 in decimal digits, without a needless 0 in front."""
    if word == "" or not all([sign in DIGITS for sign in word]):
        return False
    return word == "0" or not word.startswith("0")
