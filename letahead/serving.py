"""Who is served when: whoever stands in front can be served at any moment."""

from letahead.chains import chained_to, check_persons, first_place, last_place
from letahead.errors import NoNumber
from letahead.orders import can_come


def can_be_served(book, queue, order):
    """Tell whether all can be served in this ORDER."""
    return can_come(book, queue, order)


def first_served(book, queue):
    """Return the ascending tuple of the persons who can be served first of all."""
    return tuple([person for person in range(len(queue)) if earliest(book, queue, person) == 0])


def served_at(book, queue, number):
    """Return the ascending tuple of the persons ahead of whom just so many can be served.

    NoNumber(number) if it is below 0 or not below how many persons there are.
    """
    if not 0 <= number < len(queue):
        raise NoNumber(number)
    return tuple([
        person for person in range(len(queue))
        if earliest(book, queue, person) <= number <= latest(book, queue, person)
    ])


def earliest(book, queue, one):
    """Return how many are served ahead of this person at the least; NoPlace(number) if it is no person."""
    return first_place(book, queue, one)


def latest(book, queue, one):
    """Return how many are served ahead of this person at the most; NoPlace(number) if it is no person."""
    return last_place(book, queue, one)


def surely_ahead(book, queue, one):
    """Return the ascending tuple of those who are served ahead of this person in any case; NoPlace(number)."""
    check_persons(queue, (one,))
    return tuple([person for person in chained_to(book, queue, one) if person != one])
