"""Tests of letahead.orders: [2], [3], [6] and (b) of [1]."""

import unittest
from itertools import product

from checks import Checks, all_pairs, rows
from letahead import orders
from letahead.books import Book
from letahead.courses import after
from letahead.errors import NoNumber
from letahead.orders import (
    against, can_come, course_to, exchanges_to, how_many_orders, is_against, is_course_to, nth_order, number_of_order,
)
from walks import CASES, NO_NUMBERS, nested, orders_of, pairs_of, reached

TEN = tuple("abcdefghij")
ALL_OF_EIGHT = tuple((one, other) for one in "abcdefgh" for other in "abcdefgh" if one < other)
EIGHTS = [
    (pairs_of(text), tuple(queue)) for text, queue in (
        ("ab bc cd de ef fg gh", "abcdefgh"),
        ("ab ac bc", "aabbccaz"),
        ("ab bc ca", "abcabcab"),
        ("ad ae af bd be bf cd ce cf", "abcdefaf"),
        ("ah bh ch", "abcdefgh"),
        ("", "abcdefgh"),
    )
]


def pairs_against(pairs, queue, order):
    """The pairs of persons turned about of whom the one who was ahead does not let the other one."""
    couples = [(one, other) for one in range(len(queue)) for other in range(one + 1, len(queue))]
    return [
        (one, other) for one, other in couples
        if order.index(other) < order.index(one) and (queue[one], queue[other]) not in pairs
    ]


class ExamplesTest(Checks):
    def setUp(self):
        self.book = Book((("a", "b"), ("b", "c")))
        self.queue = ("a", "b", "c")

    def test_orders(self):
        book, queue = self.book, self.queue
        self.same(
            (can_come(book, queue, (1, 0, 2)), can_come(book, queue, (2, 1, 0)), against(book, queue, (2, 1, 0)),
             is_against(book, queue, (2, 0, 1), (0, 2)), exchanges_to((2, 1, 0))),
            (True, False, (0, 2), True, 3))
        self.same(
            (course_to(book, queue, (0, 2, 1)), is_course_to(book, queue, (1, 0, 2), (0,)),
             is_course_to(book, queue, (1, 0, 2), (0, 1)), course_to(book, queue, (2, 0, 1))),
            ((1,), True, False, None))

    def test_numbers(self):
        book, queue = self.book, self.queue
        self.same(
            (how_many_orders(book, queue), [nth_order(book, queue, number) for number in range(3)],
             number_of_order(book, queue, (1, 0, 2)), number_of_order(book, queue, (2, 1, 0))),
            (3, [(0, 1, 2), (0, 2, 1), (1, 0, 2)], 2, None))
        self.refused(NoNumber, {"number": 3}, nth_order, book, queue, 3)

    def test_what_stands_here_is_defined_here(self):
        self.defined_in(orders, [
            "against", "can_come", "is_against", "exchanges_to", "course_to", "is_course_to", "how_many_orders",
            "nth_order", "number_of_order",
        ])


class CanComeTest(Checks):
    def test_just_what_courses_lead_to(self):
        for pairs, queue, found in CASES:
            book = Book(pairs)
            self.same([can_come(book, queue, order) for order in orders_of(queue)],
                      [order in found for order in orders_of(queue)])

    def test_against_exactly_if_it_can_not_come(self):
        for pairs, queue, found in CASES:
            book = Book(pairs)
            for order in orders_of(queue):
                wanted = pairs_against(pairs, queue, order)
                self.same(against(book, queue, order), wanted[0] if wanted else None)
                self.assertIs(wanted == [], order in found)

    def test_the_least_pair(self):
        for order, wanted in (((2, 1, 0), (0, 1)), ((1, 2, 0), (0, 1)), ((2, 0, 1), (0, 2)), ((0, 2, 1), (1, 2)),
                              ((0, 1, 2), None)):
            self.same(against(Book(), ("a", "b", "c"), order), wanted)
        self.same(against(Book.of("a b; b c; c d"), ("a", "b", "c", "d"), (3, 2, 1, 0)), (0, 2))
        self.same(against(Book.of("a b; a c; a d; b c"), ("a", "b", "c", "d"), (3, 2, 1, 0)), (1, 3))

    def test_nobody_and_one_person_and_one_kind(self):
        for book in (Book(), Book.of("a b")):
            for queue in ((), ("a",)):
                order = tuple(range(len(queue)))
                self.same(
                    (can_come(book, queue, order), against(book, queue, order), exchanges_to(order),
                     course_to(book, queue, order), is_course_to(book, queue, order, ())),
                    (True, None, 0, (), True))
            self.same([can_come(book, ("a", "a"), order) for order in ((0, 1), (1, 0))], [True, False])
            self.same([against(book, ("a", "a"), order) for order in ((0, 1), (1, 0))], [None, (0, 1)])

    def test_ten_persons(self):
        book, turned = Book([(one, other) for one in TEN for other in TEN if one < other]), tuple(reversed(range(10)))
        self.same((can_come(book, TEN, turned), against(book, TEN, turned), exchanges_to(turned)), (True, None, 45))
        queue = tuple("abcdefghhh")
        self.same(against(Book(ALL_OF_EIGHT), queue, turned), (7, 8))
        self.same(can_come(Book(ALL_OF_EIGHT), queue, (7, 8, 9, 6, 5, 4, 3, 2, 1, 0)), True)

    def test_each_way(self):
        book, queue = Book.of("a b; b c"), ("a", "b", "c")
        for order, pair in (((1, 0, 2), None), ((2, 1, 0), (0, 2))):
            self.same_each_way(pair is None, can_come, book=book, queue=queue, order=order)
            self.same_each_way(pair, against, book=book, queue=queue, order=order)


class IsAgainstTest(Checks):
    def test_just_all_pairs(self):
        for pairs, queue, _ in CASES[::3]:
            book, things = Book(pairs), rows(range(-1, len(queue) + 1), 2) + [(0, 0, 1), (0, 1, 0)]
            for order in orders_of(queue):
                wanted = pairs_against(pairs, queue, order)
                self.same([is_against(book, queue, order, thing) for thing in things],
                          [thing in wanted for thing in things])

    def test_things_of_all_kinds(self):
        book, queue, order = Book(), ("a", "b", "c"), (2, 1, 0)
        for thing in ((0, 1), (0, 2), (1, 2)):
            self.assertIs(is_against(book, queue, order, thing), True)
            self.assertIs(is_against(book, queue, order, list(thing)), False)
            self.assertIs(is_against(book, queue, order, thing[::-1]), False)
            self.assertIs(is_against(book, queue, order, (thing,)), False)
        for thing in NO_NUMBERS + [(False, True), (False, 1), (0, True), (0, 2, 1), (), (0,), (0, 10 ** 400), (-3, -1),
                                   (0, -1), (0,) * 10 ** 5, nested((0, 1), 11), ((0, 1), (0, 2))]:
            self.assertIs(is_against(book, queue, order, thing), False)

    def test_each_way(self):
        given = {"book": Book.of("a b; b c"), "queue": ("a", "b", "c"), "order": (2, 0, 1)}
        self.same_each_way(True, is_against, **given, thing=(0, 2))
        self.same_each_way(False, is_against, **given, thing=(1, 2))
        self.same_each_way(False, is_against, **given, thing=[0, 2])


class ExchangesTest(Checks):
    def test_as_many_as_pairs_turned_about(self):
        for many in range(6):
            for order in orders_of(range(many)):
                wanted = sum(order[back] < order[front] for back in range(many) for front in range(back))
                self.same(exchanges_to(order), wanted)

    def test_all_courses_are_so_long(self):
        for _, _, found in CASES:
            for order, ways in found.items():
                self.same({len(course) for course in ways}, {exchanges_to(order)})

    def test_each_way(self):
        self.same_each_way(3, exchanges_to, order=(2, 1, 0))
        self.same_each_way(0, exchanges_to, order=())


class CourseToTest(Checks):
    def test_a_course_to_what_can_come(self):
        for pairs, queue, found in CASES:
            book = Book(pairs)
            for order in orders_of(queue):
                course = course_to(book, queue, order)
                if order in found:
                    self.assertIn(course, found[order])
                    self.same(course_to(Book(pairs[::-1]), list(queue), order), course)
                else:
                    self.assertIsNone(course)

    def test_ten_persons(self):
        book = Book([(one, other) for one in TEN for other in TEN if one < other])
        for order in (tuple(reversed(range(10))), (1, 0, 3, 2, 5, 4, 7, 6, 9, 8), (9, 0, 8, 1, 7, 2, 6, 3, 5, 4)):
            course = course_to(book, TEN, order)
            self.same((after(book, TEN, course), len(course)), (order, exchanges_to(order)))

    def test_just_the_courses_to_the_order(self):
        for pairs, queue, found in CASES[::3]:
            book, ways = Book(pairs), [course for group in found.values() for course in group]
            for order in orders_of(queue):
                self.same([is_course_to(book, queue, order, way) for way in ways],
                          [way in found.get(order, ()) for way in ways])

    def test_just_courses(self):
        for pairs in all_pairs("abc"):
            for queue in product("abc", repeat=3):
                found = next(case[2] for case in CASES if case[:2] == (pairs, queue))
                for order in ((1, 0, 2), (2, 1, 0)):
                    for thing in rows((-1, 0, 1, 2), 3):
                        self.assertIs(is_course_to(Book(pairs), queue, order, thing), thing in found.get(order, ()))

    def test_things_of_all_kinds(self):
        book, queue, order = Book.of("a b; a c"), ("a", "b", "c"), (1, 2, 0)
        self.assertIs(is_course_to(book, queue, order, (0, 1)), True)
        for thing in NO_NUMBERS + [(False, True), (False, 1), (0, True), [0, 1], ((0, 1),), (), (0,), (0, 1, 0), (0, 1, 1),
                                   (0, 1, None), (10 ** 400,), (0,) * 10 ** 5, nested((0, 1), 11), (0, -1)]:
            self.assertIs(is_course_to(book, queue, order, thing), False)
            self.assertIs(is_course_to(book, queue, (0, 1, 2), thing), thing == () and isinstance(thing, tuple))

    def test_each_way(self):
        given = {"book": Book.of("a b; a c"), "queue": ("a", "b", "c"), "order": (1, 2, 0)}
        self.same_each_way((0, 1), course_to, **given)
        self.same_each_way(None, course_to, book=Book.of("a b"), queue=("a", "b", "c"), order=(2, 1, 0))
        self.same_each_way(True, is_course_to, **given, thing=(0, 1))
        self.same_each_way(False, is_course_to, **given, thing=(0,))
        self.same_each_way(False, is_course_to, **given, thing=[0, 1])


class NumbersTest(Checks):
    def test_as_many_as_courses_lead_to_and_in_their_row(self):
        for pairs, queue, found in CASES:
            book, wanted = Book(pairs), sorted(found)
            self.same(how_many_orders(book, queue), len(wanted))
            self.same([nth_order(book, queue, number) for number in range(len(wanted))], wanted)
            for order in orders_of(queue):
                self.same(number_of_order(book, queue, order), wanted.index(order) if order in found else None)

    def test_no_such_number(self):
        for pairs, queue, found in CASES[::4]:
            for number in (-1, -len(found), len(found), len(found) + 1, 10 ** 30, -10 ** 30):
                self.refused(NoNumber, {"number": number}, nth_order, Book(pairs), queue, number)

    def test_nobody_and_one_person_and_one_kind(self):
        for book in (Book(), Book.of("a b")):
            for queue in ((), ("a",), ("b", "b"), ("a",) * 8):
                order = tuple(range(len(queue)))
                self.same((how_many_orders(book, queue), nth_order(book, queue, 0), number_of_order(book, queue, order)),
                          (1, order, 0))
                for number in (-1, 1, 2):
                    self.refused(NoNumber, {"number": number}, nth_order, book, queue, number)
            self.same(number_of_order(book, ("a", "a"), (1, 0)), None)

    def test_eight_persons(self):
        for pairs, queue in EIGHTS:
            book, wanted = Book(pairs), reached(pairs, queue)
            many = len(wanted)
            self.same(how_many_orders(book, queue), many)
            for number in sorted({0, 1, many // 3, many // 2, many - 2, many - 1} & set(range(many))):
                self.same(nth_order(book, queue, number), wanted[number])
                self.same(number_of_order(book, queue, wanted[number]), number)
            self.refused(NoNumber, {"number": many}, nth_order, book, queue, many)

    def test_all_orders_of_eight(self):
        book, queue = Book(ALL_OF_EIGHT), tuple("abcdefgh")
        self.same((how_many_orders(book, queue), nth_order(book, queue, 40319)), (40320, (7, 6, 5, 4, 3, 2, 1, 0)))
        # 5040 = 7!, 720 = 6!: the first 1 behind in the row of all ORDERS by their numbers.
        self.same((nth_order(book, queue, 5040), nth_order(book, queue, 5040 + 720)),
                  ((1, 0, 2, 3, 4, 5, 6, 7), (1, 2, 0, 3, 4, 5, 6, 7)))
        self.same(number_of_order(book, queue, (1, 2, 0, 3, 4, 5, 7, 6)), 5040 + 720 + 1)
        self.refused(NoNumber, {"number": 40320}, nth_order, book, queue, 40320)

    def test_somewhat_more_than_eight_persons(self):
        book = Book([(one, other) for one in TEN for other in TEN if one < other])
        self.same((how_many_orders(book, TEN), number_of_order(book, TEN, tuple(reversed(range(10))))), (3628800, 3628799))

    def test_each_way(self):
        book, queue = Book.of("a b; b c"), ("a", "b", "c")
        self.same_each_way(3, how_many_orders, book=book, queue=queue)
        self.same_each_way((0, 2, 1), nth_order, book=book, queue=queue, number=1)
        self.same_each_way(2, number_of_order, book=book, queue=queue, order=(1, 0, 2))
        self.same_each_way(None, number_of_order, book=book, queue=queue, order=(2, 1, 0))
        self.refused_each_way(NoNumber, {"number": -1}, nth_order, book=book, queue=queue, number=-1)


if __name__ == "__main__":
    unittest.main()
