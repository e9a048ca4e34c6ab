"""The one end of a QUEUE by a Book that is handed on, also for QUEUES of great numbers."""

from letahead.books import is_handed_on
from letahead.courses import an_end
from letahead.errors import NotHandedOn
from letahead.orders import exchanges_to, turned_about


def the_end(book, queue):
    """Return the ORDER that is the end; NotHandedOn() if the Book is not handed on."""
    if not is_handed_on(book):
        raise NotHandedOn()
    return an_end(book, queue)


def most_exchanges(book, queue):
    """Return how many EXCHANGES each COURSE to the end has; NotHandedOn() if the Book is not handed on."""
    return exchanges_to(the_end(book, queue))


def great_end(book, runs):
    """Return the KINDS in the end as RUNS, each as long as can be; NotHandedOn() if the Book is not handed on."""
    found = []
    for number in end_of_runs(book, runs):
        kind, many = runs[number]
        if found and found[-1][0] == kind:
            many += found.pop()[1]
        found.append((kind, many))
    return tuple(found)


def great_exchanges(book, runs):
    """Return how many EXCHANGES each COURSE to the end has; NotHandedOn() if the Book is not handed on."""
    pairs = turned_about(end_of_runs(book, runs))
    return sum([runs[one][1] * runs[other][1] for one, other in pairs])


def end_of_runs(book, runs):
    """Return in which ORDER the RUNS stand in the end; NotHandedOn() if the Book is not handed on."""
    # Whoever lets one person of a KIND lets all of them, so each of the RUNS moves like one person.
    return the_end(book, [kind for kind, _ in runs])
