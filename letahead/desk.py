"""A desk: requests, a line each, and the answers to them."""

from letahead.books import Book, is_handed_on, lets
from letahead.errors import BadLine, BadText, NoBook, NoPlace
from letahead.serving import earliest, first_served, latest
from letahead.texts import is_written_number, order_text, queue_from, queue_text
from letahead.values import is_name

DONE = "done"

# What stands behind the first word of a request.
FORMS = {
    "book": ("name", "pairs"),
    "drop": ("name",),
    "names": (),
    "text": ("name",),
    "handed": ("name",),
    "lets": ("name", "name", "name"),
    "first": ("name", "queue"),
    "earliest": ("name", "number", "queue"),
    "latest": ("name", "number", "queue"),
}


def book_named(books, name):
    """Return the Book of this NAME; NoBook(name) if there is none."""
    if name not in books:
        raise NoBook(name)
    return books[name]


def yes_or_no(told):
    """Return the word for True or for False."""
    return "yes" if told else "no"


def keep_book(books, name, book):
    """Let this Book have this NAME."""
    books[name] = book
    return DONE


def drop_book(books, name):
    """Let the Book of this NAME go."""
    if name not in books:
        raise NoBook(name)
    del books[name]
    return DONE


def tell_names(books):
    """Tell the NAMEs, written as KINDS are."""
    return queue_text(sorted(books))


def tell_text(books, name):
    """Tell the text of the Book."""
    return book_named(books, name).text


def tell_handed(books, name):
    """Tell whether the Book is handed on."""
    return yes_or_no(is_handed_on(book_named(books, name)))


def tell_lets(books, name, one, other):
    """Tell whether one lets other ahead."""
    return yes_or_no(lets(book_named(books, name), one, other))


def tell_first(books, name, queue):
    """Tell who can be served first of all."""
    return order_text(first_served(book_named(books, name), queue))


def tell_earliest(books, name, person, queue):
    """Tell how many are served ahead of the person at the least."""
    return str(earliest(book_named(books, name), queue, person))


def tell_latest(books, name, person, queue):
    """Tell how many are served ahead of the person at the most."""
    return str(latest(book_named(books, name), queue, person))


ACTIONS = {
    "book": keep_book,
    "drop": drop_book,
    "names": tell_names,
    "text": tell_text,
    "handed": tell_handed,
    "lets": tell_lets,
    "first": tell_first,
    "earliest": tell_earliest,
    "latest": tell_latest,
}


def answers(text):
    """Return the list of the answers to the lines of a text; BadLine(number) for the first that is no request."""
    if text == "":
        return []
    requests = [request_from(number, line) for number, line in enumerate(text.split("\n"))]
    books = {}
    return [answer(books, word, parts) for word, parts in requests]


def request_from(number, line):
    """Return the first word of a request and the list of its parts; BadLine(number) if the line is none."""
    words = line.split(" ")
    if words[0] not in FORMS:
        raise BadLine(number)
    forms = FORMS[words[0]]
    texts = texts_of_parts(len(forms), words[1:])
    if len(texts) != len(forms):
        raise BadLine(number)
    try:
        return words[0], [part_from(form, part) for form, part in zip(forms, texts)]
    except BadText:
        raise BadLine(number) from None


def texts_of_parts(many, words):
    """Return the list of the texts of so many parts; there are more or fewer if the words do not make so many."""
    if many == 0:
        return words
    # All words that are left are of the last part: PAIRS and a QUEUE have blanks in them.
    last = many - 1
    return words[:last] + [" ".join(words[last:])]


def part_from(form, part):
    """Return what is so written; BadText(piece) if it is not written in this form."""
    if form == "pairs":
        return Book.of(part)
    if form == "queue":
        return queue_from(part)
    if form == "number" and is_written_number(part):
        return int(part)
    if form == "name" and is_name(part):
        return part
    # A word is the one piece of its text.
    raise BadText(0)


def answer(books, word, parts):
    """Do a request, and return its answer."""
    action = ACTIONS[word]
    try:
        return action(books, *parts)
    except NoBook:
        return "refused NoBook"
    except NoPlace:
        return "refused NoPlace"
