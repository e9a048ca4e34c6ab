"""COURSES: EXCHANGES one behind another, and where they lead."""

from letahead.books import lets
from letahead.errors import NoPlace
from letahead.values import is_numbers


def lets_person(book, queue, one, other):
    """Tell whether the first one of two persons of the QUEUE lets the other one ahead."""
    return lets(book, queue[one], queue[other])


def order_at_first(queue):
    """Return the ORDER in which nobody has changed places."""
    return tuple(range(len(queue)))


def is_possible(book, queue, order, place):
    """Tell whether this number is an EXCHANGE that is possible in the ORDER."""
    return 0 <= place < len(order) - 1 and lets_person(book, queue, order[place], order[place + 1])


def exchanged(order, place):
    """Return the ORDER, a tuple, after an EXCHANGE."""
    return order[:place] + (order[place + 1], order[place]) + order[place + 2:]


def places_for(book, queue, order):
    """Return the ascending tuple of the EXCHANGES that are possible in the ORDER."""
    return tuple([place for place in range(len(order)) if is_possible(book, queue, order, place)])


def after(book, queue, course):
    """Return the ORDER to which a COURSE leads; NoPlace(number) for the first number that is not possible."""
    order = order_at_first(queue)
    for place in course:
        if not is_possible(book, queue, order, place):
            raise NoPlace(place)
        order = exchanged(order, place)
    return order


def is_course(book, queue, thing):
    """Tell whether thing is a COURSE."""
    if not is_numbers(thing):
        return False
    try:
        after(book, queue, thing)
    except NoPlace:
        return False
    return True


def kinds_after(queue, order):
    """Return the tuple of the KINDS of the persons as they stand in the ORDER."""
    return tuple([queue[person] for person in order])


def is_end(book, queue, order):
    """Tell whether no EXCHANGE is possible in the ORDER."""
    return places_for(book, queue, order) == ()


def an_end(book, queue):
    """Return an end that can come about."""
    order = order_at_first(queue)
    places = places_for(book, queue, order)
    # Who has let somebody ahead is never let back, so this ends.
    while places:
        order = exchanged(order, places[0])
        places = places_for(book, queue, order)
    return order


def all_ends(book, queue):
    """Return the ascending list of all ends that can come about."""
    return [order for order in reached_orders(book, queue) if is_end(book, queue, order)]


def reached_orders(book, queue):
    """Return the ascending list of the ORDERS to which COURSES lead."""
    waiting = [order_at_first(queue)]
    known = {order: True for order in waiting}
    while waiting:
        order = waiting.pop()
        for place in places_for(book, queue, order):
            reached = exchanged(order, place)
            if reached not in known:
                known[reached] = True
                waiting.append(reached)
    return sorted(known)
