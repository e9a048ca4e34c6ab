"""ORDERS that can come about, and how many there are."""

from letahead.courses import after, is_course, lets_person
from letahead.errors import NoNumber
from letahead.values import is_numbers, tuples


def turned_about(order):
    """Return the ascending list of the pairs of persons turned about, who was ahead in the QUEUE first."""
    return sorted([
        (order[behind], order[front])
        for behind in range(len(order)) for front in range(behind) if order[behind] < order[front]
    ])


def all_against(book, queue, order):
    """Return the ascending list of the pairs turned about of whom the first one does not let the other one."""
    return [pair for pair in turned_about(order) if not lets_person(book, queue, pair[0], pair[1])]


def can_come(book, queue, order):
    """Tell whether the ORDER can come about."""
    return against(book, queue, order) is None


def against(book, queue, order):
    """Return the least pair that shows that the ORDER can not come about; None if there is none."""
    pairs = all_against(book, queue, order)
    return pairs[0] if pairs else None


def is_against(book, queue, order, thing):
    """Tell whether thing is a pair that shows that the ORDER can not come about."""
    return is_numbers(thing) and thing in all_against(book, queue, order)


def exchanges_to(order):
    """Return how many pairs of persons are turned about in the ORDER."""
    return len(turned_about(order))


def course_to(book, queue, order):
    """Return a COURSE that leads to the ORDER; None if there is none."""
    if not can_come(book, queue, order):
        return None
    course = []
    # Those who are not yet in their places stand behind the others, as in the QUEUE.
    waiting = sorted(order)
    for front, person in enumerate(order):
        ahead = waiting.index(person)
        course.extend([front + place for place in reversed(range(ahead))])
        waiting.pop(ahead)
    return tuple(course)


def is_course_to(book, queue, order, thing):
    """Tell whether thing is a COURSE that leads to the ORDER."""
    return is_course(book, queue, thing) and after(book, queue, thing) == tuples(order)


def how_many_orders(book, queue):
    """Return how many ORDERS can come about."""
    return ways(who_stays_ahead(book, queue), (), {})


def nth_order(book, queue, number):
    """Return the ORDER at this place of those that can come about; NoNumber(number) if there is none."""
    stays_ahead = who_stays_ahead(book, queue)
    known = {}
    if not 0 <= number < ways(stays_ahead, (), known):
        raise NoNumber(number)
    order = ()
    left = number
    for _ in queue:
        for person in next_ones(stays_ahead, order):
            many = ways(stays_ahead, order + (person,), known)
            if left < many:
                order = order + (person,)
                break
            left -= many
    return order


def number_of_order(book, queue, order):
    """Return the place of the ORDER among those that can come about; None if it can not."""
    if not can_come(book, queue, order):
        return None
    stays_ahead = who_stays_ahead(book, queue)
    known = {}
    number = 0
    for at, person in enumerate(order):
        front = tuple(order[:at])
        lesser = [one for one in next_ones(stays_ahead, front) if one < person]
        number += sum([ways(stays_ahead, front + (one,), known) for one in lesser])
    return number


def who_stays_ahead(book, queue):
    """Return for each person the list of those in front of them who do not let them ahead."""
    return [
        [one for one in range(person) if not lets_person(book, queue, one, person)]
        for person in range(len(queue))
    ]


def next_ones(stays_ahead, front):
    """Return the ascending list of the persons who can stand just behind those of front."""
    waiting = [person for person in range(len(stays_ahead)) if person not in front]
    return [person for person in waiting if all([one in front for one in stays_ahead[person]])]


def ways(stays_ahead, front, known):
    """Return in how many ways all others can stand behind those of front; known keeps what was counted."""
    # It matters who stands in front, not in which ORDER.
    key = tuple(sorted(front))
    if len(key) == len(stays_ahead):
        return 1
    if key not in known:
        persons = next_ones(stays_ahead, key)
        known[key] = sum([ways(stays_ahead, key + (person,), known) for person in persons])
    return known[key]
