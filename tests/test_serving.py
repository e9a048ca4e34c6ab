"""Tests of letahead.serving: [2], [3], [10]."""

import unittest

from checks import Checks
from letahead import serving
from letahead.books import Book
from letahead.errors import NoNumber, NoPlace
from letahead.serving import can_be_served, earliest, first_served, latest, served_at, surely_ahead
from walks import CASES, orders_of, pairs_of, steps, stepped

TEN = tuple("abcdefghij")
EIGHT = "abcdefgh"
ALL_OF_EIGHT = tuple((one, other) for one in EIGHT for other in EIGHT if one < other)
OF_ONE = (earliest, latest, surely_ahead)


def served_orders(pairs, queue):
    """The orders in which all can be served, from state to state: who is gone, and who stands there in which ORDER."""
    last = {((), tuple(range(len(queue))))}
    known, done = set(last), set()
    while last:
        following = set()
        for gone, standing in last:
            following.update((gone, stepped(standing, place)) for place in steps(pairs, queue, standing))
            if standing:
                following.add((gone + standing[:1], standing[1:]))
            else:
                done.add(gone)
        last = following - known
        known |= last
    return sorted(done)


SERVED = [(pairs, queue, served_orders(pairs, queue)) for pairs, queue, _ in CASES]


class ExamplesTest(Checks):
    def setUp(self):
        self.book, self.queue = Book.of("a b; b c"), ("a", "b", "c")

    def test_served(self):
        book, queue = self.book, self.queue
        self.same(
            (first_served(book, queue), served_at(book, queue, 0), served_at(book, queue, 1), served_at(book, queue, 2)),
            ((0, 1), (0, 1), (0, 1, 2), (1, 2)))
        self.same(
            ([can_be_served(book, queue, order) for order in ((1, 0, 2), (0, 2, 1), (2, 0, 1), (1, 2, 0))],
             earliest(book, queue, 2), latest(book, queue, 0), surely_ahead(book, queue, 2)),
            ([True, True, False, False], 1, 1, (0,)))

    def test_who_stands_between(self):
        book = Book.of("nine one")
        self.same(
            (surely_ahead(book, ("nine", "five", "one"), 2), surely_ahead(book, ("nine", "one", "five"), 1),
             first_served(book, ())),
            ((0, 1), (), ()))

    def test_errors(self):
        self.refused(NoPlace, {"number": 2}, earliest, Book.of("a b"), ("a", "b"), 2)
        self.refused(NoNumber, {"number": 0}, served_at, Book.of("a b"), (), 0)

    def test_what_stands_here_is_defined_here(self):
        self.defined_in(serving, [
            "can_be_served", "first_served", "earliest", "latest", "surely_ahead", "served_at",
        ])


class OrdersTest(Checks):
    def test_just_the_orders_in_which_all_are_served(self):
        for pairs, queue, served in SERVED:
            self.same([can_be_served(Book(pairs), queue, order) for order in orders_of(queue)],
                      [order in served for order in orders_of(queue)])

    def test_just_the_orders_that_can_come_about(self):
        for (pairs, queue, found), (_, _, served) in zip(CASES, SERVED):
            self.same(served, sorted(found))

    def test_ten_persons(self):
        turned = tuple(reversed(range(8)))
        self.same(can_be_served(Book(ALL_OF_EIGHT), tuple(EIGHT), turned), True)
        self.same(can_be_served(Book(ALL_OF_EIGHT[1:]), tuple(EIGHT), turned), False)
        self.same(can_be_served(Book(ALL_OF_EIGHT), TEN, (*turned, 8, 9)), True)
        self.same(can_be_served(Book(ALL_OF_EIGHT), TEN, (*turned, 9, 8)), False)

    def test_each_way(self):
        book, queue = Book.of("a b; b c"), ("a", "b", "c")
        self.same_each_way(True, can_be_served, book=book, queue=queue, order=(1, 0, 2))
        self.same_each_way(False, can_be_served, book=book, queue=queue, order=(2, 0, 1))


class PersonsTest(Checks):
    def test_by_all_orders_of_serving(self):
        for pairs, queue, served in SERVED:
            book = Book(pairs)
            for one in range(len(queue)):
                places = [order.index(one) for order in served]
                self.same((earliest(book, queue, one), latest(book, queue, one)), (min(places), max(places)))
                ahead = [person for person in range(len(queue)) if person != one and all(
                    order.index(person) < order.index(one) for order in served)]
                self.same(surely_ahead(book, queue, one), tuple(ahead))
            firsts = sorted({order[0] for order in served if order})
            self.same(first_served(book, queue), tuple(firsts))

    def test_each_number_between(self):
        for pairs, queue, served in SERVED:
            book = Book(pairs)
            for number in range(len(queue)):
                wanted = tuple(sorted({order[number] for order in served}))
                self.same(served_at(book, queue, number), wanted)
                self.same(wanted, tuple(
                    one for one in range(len(queue))
                    if earliest(book, queue, one) <= number <= latest(book, queue, one)))

    def test_no_pairs_and_one_kind_and_one_person(self):
        for book, queue in ((Book(), TEN), (Book.of("a b"), ("a",) * 10), (Book.of("a b"), ("b",)), (Book(), ("z",))):
            self.same(first_served(book, queue), (0,))
            for one in range(len(queue)):
                self.same((earliest(book, queue, one), latest(book, queue, one)), (one, one))
                self.same((surely_ahead(book, queue, one), served_at(book, queue, one)), (tuple(range(one)), (one,)))

    def test_nobody(self):
        for book in (Book(), Book.of("a b")):
            self.same((first_served(book, ()), can_be_served(book, (), ())), ((), True))

    def test_ten_persons(self):
        book, queue = Book(ALL_OF_EIGHT), tuple("aabbccddhz")
        self.same(first_served(book, queue), (0, 2, 4, 6, 8))
        self.same([earliest(book, queue, one) for one in range(10)], [0, 1, 0, 1, 0, 1, 0, 1, 0, 9])
        self.same([latest(book, queue, one) for one in range(10)], [7, 8, 7, 8, 7, 8, 7, 8, 8, 9])
        self.same(surely_ahead(book, queue, 9), tuple(range(9)))
        self.same([surely_ahead(book, queue, one) for one in (3, 8, 0)], [(2,), (), ()])
        self.same((served_at(book, queue, 0), served_at(book, queue, 8), served_at(book, queue, 9)),
                  ((0, 2, 4, 6, 8), (1, 3, 5, 7, 8), (9,)))

    def test_not_handed_on(self):
        book, queue = Book(pairs_of("ab bc ca")), tuple("abc")
        self.same([surely_ahead(book, queue, one) for one in range(3)], [(), (), (0,)])
        self.same((first_served(book, queue), served_at(book, queue, 2)), ((0, 1), (1, 2)))

    def test_each_way(self):
        book, queue = Book.of("a b; b c"), ("a", "b", "c")
        self.same_each_way((0, 1), first_served, book=book, queue=queue)
        self.same_each_way((1, 2), served_at, book=book, queue=queue, number=2)
        self.same_each_way(1, earliest, book=book, queue=queue, one=2)
        self.same_each_way(1, latest, book=book, queue=queue, one=0)
        self.same_each_way((0,), surely_ahead, book=book, queue=queue, one=2)


class ErrorsTest(Checks):
    def test_numbers_that_are_no_person_and_no_place(self):
        for queue in ((), ("a",), ("a", "b"), TEN):
            many = len(queue)
            for number in (-1, -many - 1, -10 ** 30, many, many + 1, 10 ** 30):
                for call in OF_ONE:
                    self.refused_each_way(NoPlace, {"number": number}, call, book=Book.of("a b"), queue=queue, one=number)
                self.refused_each_way(
                    NoNumber, {"number": number}, served_at, book=Book.of("a b"), queue=queue, number=number)


if __name__ == "__main__":
    unittest.main()
