"""Chains: persons one behind another, none of whom lets the next one ahead."""

from letahead.courses import lets_person
from letahead.errors import NoPlace
from letahead.values import is_numbers


def check_persons(queue, numbers):
    """Raise NoPlace(number) for the first of these numbers that is no person of the QUEUE."""
    for number in numbers:
        if not 0 <= number < len(queue):
            raise NoPlace(number)


def can_pass(book, queue, one, other):
    """Tell whether other stands ahead of one in some ORDER that can come about."""
    return chain_against(book, queue, one, other) is None


def order_passing(book, queue, one, other):
    """Return an ORDER that can come about in which other stands ahead of one; None if there is none."""
    check_persons(queue, (one, other))
    front = chained_to(book, queue, other)
    if one in front:
        return None
    # Who is not in front lets all of them ahead: a chain would lead from whoever does not.
    return tuple(front + [person for person in range(len(queue)) if person not in front])


def chain_against(book, queue, one, other):
    """Return a chain from one to other; None if there is none."""
    check_persons(queue, (one, other))
    chains = {one: (one,)}
    for person in range(one + 1, other + 1):
        links = [last for last in chains if not lets_person(book, queue, last, person)]
        if links:
            chains[person] = chains[links[0]] + (person,)
    return chains.get(other)


def is_chain(book, queue, one, other, thing):
    """Tell whether thing is a chain from one to other."""
    check_persons(queue, (one, other))
    if not is_numbers(thing) or thing[:1] != (one,) or thing[-1:] != (other,):
        return False
    steps = list(zip(thing, thing[1:]))
    # Between one and other all numbers that ascend are persons of the QUEUE.
    if not all([last < person for last, person in steps]):
        return False
    return not any([lets_person(book, queue, last, person) for last, person in steps])


def first_place(book, queue, person):
    """Return the least place at which this person can stand in an ORDER that can come about."""
    check_persons(queue, (person,))
    return len(chained_to(book, queue, person)) - 1


def last_place(book, queue, person):
    """Return the greatest place at which this person can stand in an ORDER that can come about."""
    check_persons(queue, (person,))
    return len(queue) - len(chained_from(book, queue, person))


def chained_to(book, queue, person):
    """Return the ascending list of this person and of those from whom a chain leads to them."""
    found = [person]
    for one in reversed(range(person)):
        if not all([lets_person(book, queue, one, other) for other in found]):
            found.append(one)
    return sorted(found)


def chained_from(book, queue, person):
    """Return the ascending list of this person and of those to whom a chain leads from them."""
    found = [person]
    for other in range(person + 1, len(queue)):
        if not all([lets_person(book, queue, one, other) for one in found]):
            found.append(other)
    return found
