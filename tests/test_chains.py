"""Tests of letahead.chains: [2], [3], [7] and (c) of [1]."""

import unittest
from itertools import combinations

from checks import Checks, rows
from letahead import chains
from letahead.books import Book
from letahead.chains import can_pass, chain_against, first_place, is_chain, last_place, order_passing
from letahead.errors import NoPlace
from walks import CASES, NO_NUMBERS, nested

TEN = tuple("abcdefghij")
OF_TWO = (can_pass, order_passing, chain_against)


def all_chains(pairs, queue, one, other):
    """All chains from one to other, by trying each choice of persons between them."""
    found = []
    for many in range(other - one):
        for between in combinations(range(one + 1, other), many):
            chain = (one, *between, other)
            if all((queue[last], queue[person]) not in pairs for last, person in zip(chain, chain[1:])):
                found.append(chain)
    return found


def couples(queue):
    """The pairs of persons, one ahead of other."""
    return list(combinations(range(len(queue)), 2))


class ExamplesTest(Checks):
    def test_chains(self):
        book, queue = Book((("x", "y"), ("x", "z"), ("y", "z"))), ("x", "x", "y", "w", "z")
        self.same(
            (can_pass(book, queue, 0, 2), can_pass(book, queue, 2, 4), can_pass(book, queue, 0, 1),
             chain_against(book, queue, 0, 2), is_chain(book, queue, 2, 4, chain_against(book, queue, 2, 4)),
             is_chain(book, queue, 2, 4, (2, 4))),
            (True, False, False, None, True, False))
        self.same(
            (order_passing(book, queue, 2, 4), order_passing(book, ("x", "y"), 0, 1), first_place(book, queue, 2),
             last_place(book, queue, 0), first_place(book, queue, 4), last_place(book, queue, 2),
             first_place(book, ("x", "x", "y", "z"), 3)),
            (None, (1, 0), 0, 1, 4, 2, 0))
        self.refused(NoPlace, {"number": 5}, can_pass, book, queue, 0, 5)

    def test_what_stands_here_is_defined_here(self):
        self.defined_in(chains, [
            "chain_against", "can_pass", "is_chain", "order_passing", "first_place", "last_place",
        ])


class PassTest(Checks):
    def test_who_can_pass_whom(self):
        for pairs, queue, found in CASES:
            book = Book(pairs)
            for one, other in couples(queue):
                passing = [order for order in found if order.index(other) < order.index(one)]
                self.same(can_pass(book, queue, one, other), passing != [])
                order = order_passing(book, queue, one, other)
                if passing:
                    self.assertIn(order, passing)
                    self.same(order_passing(Book(pairs[::-1]), list(queue), one, other), order)
                else:
                    self.assertIsNone(order)

    def test_a_chain_exactly_if_nobody_passes(self):
        for pairs, queue, found in CASES:
            book = Book(pairs)
            for one, other in couples(queue):
                wanted = all_chains(pairs, queue, one, other)
                self.same(wanted == [], any(order.index(other) < order.index(one) for order in found))
                chain = chain_against(book, queue, one, other)
                if wanted:
                    self.assertIn(chain, wanted)
                    self.same(chain_against(Book(pairs[::-1]), list(queue), one, other), chain)
                else:
                    self.assertIsNone(chain)

    def test_no_pairs(self):
        queue = tuple("abca")
        for one, other in couples(queue):
            self.same((can_pass(Book(), queue, one, other), order_passing(Book(), queue, one, other)), (False, None))
            self.assertIs(is_chain(Book(), queue, one, other, chain_against(Book(), queue, one, other)), True)

    def test_one_kind(self):
        book, queue = Book.of("a b"), ("a",) * 5
        for one, other in couples(queue):
            self.same((can_pass(book, queue, one, other), order_passing(book, queue, one, other)), (False, None))

    def test_long_chains_of_ten_persons(self):
        # Each lets all behind but the next one, so only the whole row is a chain.
        pairs = [(TEN[at], TEN[to]) for at in range(10) for to in range(at + 2, 10)]
        self.same((chain_against(Book(pairs), TEN, 0, 9), can_pass(Book(pairs), TEN, 0, 9)), (tuple(range(10)), False))
        self.same((first_place(Book(pairs), TEN, 9), last_place(Book(pairs), TEN, 0)), (9, 0))
        for at in range(9):
            # One gap more in the row, and there is no chain over it.
            more = Book(pairs + [(TEN[at], TEN[at + 1])])
            self.same((chain_against(more, TEN, 0, 9), can_pass(more, TEN, 0, 9)), (None, True))
            self.same((first_place(more, TEN, 9), last_place(more, TEN, 0)), (8 - at, 9 - at))
            order = order_passing(more, TEN, 0, 9)
            self.same((sorted(order), order.index(9) < order.index(0)), (list(range(10)), True))

    def test_each_way(self):
        book, queue = Book.of("x y; x z; y z"), ("x", "x", "y", "w", "z")
        for one, other, passes, order, chain in ((0, 2, True, None, None), (3, 4, False, None, (3, 4))):
            self.same_each_way(passes, can_pass, book=book, queue=queue, one=one, other=other)
            self.same_each_way(chain, chain_against, book=book, queue=queue, one=one, other=other)
        self.same_each_way((1, 0), order_passing, book=book, queue=("x", "y"), one=0, other=1)
        self.same_each_way(None, order_passing, book=book, queue=queue, one=2, other=4)


class IsChainTest(Checks):
    def test_just_all_chains(self):
        for pairs, queue, _ in CASES:
            if len(queue) == 3:
                for one, other in couples(queue):
                    wanted = all_chains(pairs, queue, one, other)
                    for thing in rows(range(-1, 4), 3):
                        self.assertIs(is_chain(Book(pairs), queue, one, other, thing), thing in wanted)

    def test_just_all_chains_of_more_persons(self):
        for pairs, queue, _ in CASES[-88:]:
            things = [row for many in range(6) for row in combinations(range(len(queue)), many)]
            for one, other in couples(queue):
                wanted = all_chains(pairs, queue, one, other)
                self.same([is_chain(Book(pairs), queue, one, other, thing) for thing in things],
                          [thing in wanted for thing in things])

    def test_things_of_all_kinds(self):
        book, queue = Book(), tuple("abcd")
        for thing in ((0, 3), (0, 1, 3), (0, 2, 3), (0, 1, 2, 3)):
            self.assertIs(is_chain(book, queue, 0, 3, thing), True)
            self.assertIs(is_chain(book, queue, 0, 3, list(thing)), False)
            self.assertIs(is_chain(book, queue, 0, 3, (thing,)), False)
        for thing in NO_NUMBERS + [(False, 3), (0, True, 3), (0, 1, 2, True), (), (0,), (3,), (3, 0), (0, 2, 1, 3),
                                   (0, 0, 3), (0, 3, 3), (0, 1, 1, 3), (0, 10 ** 400, 3), (0, -1, 3), (0, None, 3),
                                   (0, [1], 3), (0, (1,), 3), (0, "1", 3), (-1, 3), (0, 4), (0, 1, 2), (1, 2, 3),
                                   (0,) * 10 ** 5 + (3,), (0, *range(10 ** 5), 3), nested((0, 3), 11)]:
            self.assertIs(is_chain(book, queue, 0, 3, thing), False)
        for thing in NO_NUMBERS + [(False, True), (0, True), (False, 1)]:
            self.assertIs(is_chain(book, queue, 0, 1, thing), False)

    def test_each_way(self):
        given = {"book": Book.of("a c"), "queue": ("a", "b", "c"), "one": 0, "other": 2}
        self.same_each_way(True, is_chain, **given, thing=(0, 1, 2))
        self.same_each_way(False, is_chain, **given, thing=(0, 2))
        self.same_each_way(False, is_chain, **given, thing=[0, 1, 2])


class PlacesTest(Checks):
    def test_the_first_and_the_last_place(self):
        for pairs, queue, found in CASES:
            book = Book(pairs)
            for person in range(len(queue)):
                places = [order.index(person) for order in found]
                self.same((first_place(book, queue, person), last_place(book, queue, person)), (min(places), max(places)))

    def test_as_many_as_chains_tell(self):
        for pairs, queue, _ in CASES[::3]:
            book = Book(pairs)
            for person in range(len(queue)):
                front = [one for one in range(person) if all_chains(pairs, queue, one, person)]
                back = [other for other in range(person + 1, len(queue)) if all_chains(pairs, queue, person, other)]
                self.same((first_place(book, queue, person), last_place(book, queue, person)),
                          (len(front), len(queue) - 1 - len(back)))

    def test_one_person_and_one_kind_and_no_pairs(self):
        for book, queue in ((Book.of("a b"), ("a",)), (Book.of("a b"), ("a",) * 6), (Book(), tuple("abcabc"))):
            for person in range(len(queue)):
                self.same((first_place(book, queue, person), last_place(book, queue, person)), (person, person))

    def test_ten_persons(self):
        book = Book([(one, other) for one in TEN for other in TEN if one < other])
        for person in range(10):
            self.same((first_place(book, TEN, person), last_place(book, TEN, person)), (0, 9))
        queue = tuple("aabaabaaba")
        self.same([first_place(Book.of("a b"), queue, person) for person in range(10)], [0, 1, 0, 3, 4, 1, 6, 7, 2, 9])
        self.same([last_place(Book.of("a b"), queue, person) for person in range(10)], [3, 4, 2, 5, 6, 5, 7, 8, 8, 9])

    def test_each_way(self):
        book, queue = Book.of("x y; x z; y z"), ("x", "x", "y", "w", "z")
        self.same_each_way(0, first_place, book=book, queue=queue, person=2)
        self.same_each_way(1, last_place, book=book, queue=queue, person=0)


class NoPersonTest(Checks):
    def test_the_first_who_is_none(self):
        for queue in ((), ("a",), ("a", "b"), tuple("abcdefghij")):
            book, many = Book.of("a b"), len(queue)
            for bad in (-1, -many - 1, many, many + 1, 10 ** 30, -10 ** 30):
                for call in (first_place, last_place):
                    self.refused_each_way(NoPlace, {"number": bad}, call, book=book, queue=queue, person=bad)
                for other in (*range(many), -1, many, many + 7):
                    for call in OF_TWO:
                        self.refused_each_way(NoPlace, {"number": bad}, call, book=book, queue=queue, one=bad, other=other)
                    self.refused(NoPlace, {"number": bad}, is_chain, book, queue, bad, other, ())
                for one in range(many):
                    for call in OF_TWO:
                        self.refused_each_way(NoPlace, {"number": bad}, call, book=book, queue=queue, one=one, other=bad)
                    self.refused(NoPlace, {"number": bad}, is_chain, book, queue, one, bad, (one, bad))

    def test_ahead_of_what_is_to_be_judged(self):
        for thing in NO_NUMBERS:
            self.refused(NoPlace, {"number": 2}, is_chain, Book(), ("a", "b"), 0, 2, thing)
            self.refused(NoPlace, {"number": -1}, is_chain, Book(), ("a", "b"), -1, 2, thing)
        self.refused_each_way(
            NoPlace, {"number": 3}, is_chain, book=Book(), queue=("a", "b"), one=3, other=2, thing=(0, 1))


if __name__ == "__main__":
    unittest.main()
