"""Tests of letahead.courses: [2], [3], [5] and (a) of [1]."""

import unittest
from itertools import product

from checks import Checks, all_pairs, rows
from letahead import courses
from letahead.books import Book, is_handed_on
from letahead.courses import after, all_ends, an_end, is_course, is_end, kinds_after, places_for
from letahead.errors import NoPlace
from walks import CASES, NO_NUMBERS, nested, orders_of, pairs_of, reached, stepped, steps

TEN = tuple("abcdefghij")
ALL_OF_EIGHT = tuple((one, other) for one in "abcdefgh" for other in "abcdefgh" if one < other)


class ExamplesTest(Checks):
    def test_one_end(self):
        book, queue = Book((("c", "a"), ("c", "b"))), ("c", "a", "c", "b")
        self.same(
            (places_for(book, queue, (0, 1, 2, 3)), after(book, queue, (0,)), after(book, queue, (0, 2, 1)),
             after(book, queue, ()), is_course(book, queue, (0, 2, 1)), is_course(book, queue, (1,)),
             is_course(book, queue, [0])),
            ((0, 2), (1, 0, 2, 3), (1, 3, 0, 2), (0, 1, 2, 3), True, False, False))
        self.same(
            (kinds_after(queue, (1, 3, 0, 2)), is_end(book, queue, (1, 3, 0, 2)), is_end(book, queue, (1, 0, 2, 3)),
             an_end(book, queue), all_ends(book, queue)),
            (("a", "b", "c", "c"), True, False, (1, 3, 0, 2), [(1, 3, 0, 2)]))
        self.refused(NoPlace, {"number": 0}, after, book, queue, (0, 0))

    def test_luck(self):
        luck = Book((("a", "b"), ("b", "c")))
        self.same(
            (all_ends(luck, ("a", "b", "c")), an_end(luck, ("a", "b", "c")) in all_ends(luck, ("a", "b", "c")),
             all_ends(luck, ())),
            ([(0, 2, 1), (1, 0, 2)], True, [()]))

    def test_what_stands_here_is_defined_here(self):
        self.defined_in(courses, [
            "places_for", "after", "is_course", "kinds_after", "is_end", "an_end", "all_ends",
        ])


class AfterTest(Checks):
    def test_all_courses(self):
        for pairs, queue, found in CASES:
            book = Book(pairs)
            for order, ways in found.items():
                self.same([after(book, queue, course) for course in ways], [order] * len(ways))

    def test_the_first_number_that_is_not_possible(self):
        for pairs, queue, found in CASES[::7]:
            book = Book(pairs)
            for order, ways in found.items():
                possible = steps(pairs, queue, order)
                for number in (*range(-2, len(queue) + 2), 10 ** 30, -10 ** 30):
                    if number not in possible:
                        for rest in ((), (0,), (-5, 10 ** 30)):
                            self.refused(NoPlace, {"number": number}, after, book, queue, (*ways[0], number, *rest))

    def test_not_just_the_places_of_the_first_order(self):
        book = Book.of("a b; a c")
        self.same(after(book, ("a", "b", "c"), (0, 1)), (1, 2, 0))
        self.refused(NoPlace, {"number": 1}, after, book, ("a", "b", "c"), (1,))
        self.refused(NoPlace, {"number": 0}, after, book, ("a", "b", "c"), (0, 0))

    def test_nobody_and_one_person(self):
        for queue in ((), ("a",)):
            self.same(after(Book.of("a b"), queue, ()), tuple(range(len(queue))))
            for number in (-1, 0, 1, 10 ** 30):
                self.refused(NoPlace, {"number": number}, after, Book.of("a b"), queue, (number,))

    def test_the_last_person_lets_nobody_behind(self):
        # Place -1 is no place from behind, and place 1 has nobody behind it.
        for number in (-1, -2, 1, 2):
            self.refused(NoPlace, {"number": number}, after, Book.of("a b"), ("a", "b"), (number,))
        self.refused(NoPlace, {"number": -1}, after, Book.of("b a"), ("a", "b"), (-1,))

    def test_ten_persons_of_ten_kinds(self):
        book = Book([(one, other) for one in TEN for other in TEN if one < other])
        course = [place for front in range(10) for place in reversed(range(front, 9))]
        self.same(len(course), 45)
        self.same(after(book, TEN, course), tuple(reversed(range(10))))
        self.refused(NoPlace, {"number": 4}, after, book, TEN, course + [4])

    def test_each_way(self):
        book, queue = Book.of("a b; a c"), ("a", "b", "c")
        self.same_each_way((1, 2, 0), after, book=book, queue=queue, course=(0, 1))
        self.same_each_way((0, 1, 2), after, book=book, queue=queue, course=())
        self.refused_each_way(NoPlace, {"number": 1}, after, book=book, queue=queue, course=(0, 1, 1))


class IsCourseTest(Checks):
    def test_just_all_courses(self):
        for pairs, queue, found in CASES:
            if len(queue) <= 3:
                book, ways = Book(pairs), [course for group in found.values() for course in group]
                for thing in rows(range(-1, len(queue)), 3):
                    self.assertIs(is_course(book, queue, thing), thing in ways)
            else:
                self.same({is_course(Book(pairs), queue, way) for group in found.values() for way in group}, {True})

    def test_one_exchange_more(self):
        for pairs, queue, found in CASES[::5]:
            book = Book(pairs)
            for order, ways in found.items():
                for number in range(-1, len(queue) + 1):
                    self.assertIs(is_course(book, queue, (*ways[-1], number)), number in steps(pairs, queue, order))

    def test_things_of_all_kinds(self):
        book, queue = Book.of("a b; a c"), ("a", "b", "c")
        for thing in NO_NUMBERS + [list(row) for row in rows((0, 1), 2)]:
            self.assertIs(is_course(book, queue, thing), False)
            self.assertIs(is_course(book, (), thing), False)
        for thing in ((False,), (0, True), (0, 1, None), (0, "1"), (0, [1]), (0, (1,)), (0, 1, 1), (0, 1, 0), (1,), (-1,),
                      (10 ** 400,), (0, 10 ** 400), (0, -1), (0,) * 10 ** 5, tuple(range(10 ** 5)), nested((0, 1), 10)):
            self.assertIs(is_course(book, queue, thing), False)
        for thing in ((), (0,), (0, 1)):
            self.assertIs(is_course(book, queue, thing), True)

    def test_nobody_and_one_person(self):
        for queue in ((), ("a",)):
            self.same([is_course(Book.of("a b"), queue, thing) for thing in ((), (0,), (-1,), (1,))], [True] + [False] * 3)

    def test_each_way(self):
        book, queue = Book.of("a b; a c"), ("a", "b", "c")
        self.same_each_way(True, is_course, book=book, queue=queue, thing=(0, 1))
        self.same_each_way(False, is_course, book=book, queue=queue, thing=(1, 0))
        self.same_each_way(False, is_course, book=book, queue=queue, thing=[0, 1])


class OrdersTest(Checks):
    def test_places_in_all_orders(self):
        for pairs, queue, _ in CASES:
            book = Book(pairs)
            for order in orders_of(queue):
                wanted = tuple(steps(pairs, queue, order))
                self.same(places_for(book, queue, order), wanted)
                self.same(is_end(book, queue, order), wanted == ())

    def test_kinds_in_all_orders(self):
        for queue in rows("ab", 3) + [("x", "abcdefgh", "x", "y"), ("z",) * 4]:
            for order in orders_of(queue):
                self.same(kinds_after(queue, order), tuple(queue[order[at]] for at in range(len(order))))

    def test_nobody_and_one_person(self):
        for queue in ((), ("a",)):
            order = tuple(range(len(queue)))
            self.same(
                (places_for(Book.of("a b"), queue, order), is_end(Book(), queue, order), kinds_after(queue, order)),
                ((), True, queue))

    def test_ten_persons(self):
        book = Book(ALL_OF_EIGHT)
        queue = tuple("ahbgcfdeah")
        self.same(places_for(book, queue, tuple(range(10))), (0, 2, 4, 6, 8))
        self.same(places_for(book, queue, tuple(reversed(range(10)))), (1, 3, 5, 7))
        self.same(kinds_after(queue, tuple(reversed(range(10)))), tuple("haedfcgbha"))

    def test_each_way(self):
        book, queue = Book.of("a b; a c; b c"), ("a", "b", "c")
        self.same_each_way((0, 1), places_for, book=book, queue=queue, order=(0, 1, 2))
        self.same_each_way((1,), places_for, book=book, queue=queue, order=(2, 0, 1))
        self.same_each_way(True, is_end, book=book, queue=queue, order=(2, 1, 0))
        self.same_each_way(False, is_end, book=book, queue=queue, order=(2, 0, 1))
        self.same_each_way(("c", "a", "b"), kinds_after, queue=queue, order=(2, 0, 1))


class EndsTest(Checks):
    def test_all_ends_and_one_of_them(self):
        for pairs, queue, found in CASES:
            book = Book(pairs)
            wanted = sorted(order for order in found if not steps(pairs, queue, order))
            self.same(all_ends(book, queue), wanted)
            end = an_end(book, queue)
            self.assertIn(end, wanted)
            self.same(an_end(Book(pairs[::-1]), list(queue)), end)

    def test_one_end_for_each_queue_exactly_if_handed_on(self):
        for pairs in all_pairs("abc"):
            book = Book(pairs)
            most = max(len(all_ends(book, queue)) for queue in rows("abc", 4))
            self.same((pairs, most == 1), (pairs, is_handed_on(book)))
            shown = [queue for queue in product("abc", repeat=3) if len(all_ends(book, queue)) == 2]
            self.same((pairs, shown != []), (pairs, not is_handed_on(book)))

    def test_two_ends_in_the_queue_of_the_triple(self):
        for pairs in all_pairs("abcd"):
            for one, mid in pairs:
                for giver, last in pairs:
                    if giver == mid and (one, last) not in pairs:
                        self.same(len(all_ends(Book(pairs), (one, mid, last))), 2)

    def test_nobody_and_one_person_and_one_kind(self):
        for book in (Book(), Book.of("a b"), Book.of("a b; b c")):
            for queue in ((), ("a",), ("b", "b"), ("a",) * 6):
                order = tuple(range(len(queue)))
                self.same((an_end(book, queue), all_ends(book, queue)), (order, [order]))

    def test_no_pairs(self):
        for queue in rows("abc", 4):
            order = tuple(range(len(queue)))
            self.same((an_end(Book(), queue), all_ends(Book(), queue)), (order, [order]))

    def test_six_persons(self):
        for text, queue in (("ab bc cd de ef", "abcdef"), ("ab bc ca", "abcabc"), ("ab ac bc", "aabbcc"),
                            ("ab ac ad bc bd cd", "abcdda"), ("ad ae af bd be bf cd ce cf", "abcdef")):
            pairs = pairs_of(text)
            wanted = [order for order in reached(pairs, queue) if not steps(pairs, queue, order)]
            self.same(all_ends(Book(pairs), tuple(queue)), wanted)
            self.assertIn(an_end(Book(pairs), tuple(queue)), wanted)
        self.same(all_ends(Book(ALL_OF_EIGHT), tuple("abcdef")), [(5, 4, 3, 2, 1, 0)])

    def test_somewhat_more_than_six_persons(self):
        self.same(all_ends(Book(ALL_OF_EIGHT), tuple("abcdefg")), [(6, 5, 4, 3, 2, 1, 0)])

    def test_ten_persons(self):
        self.same(an_end(Book(ALL_OF_EIGHT), tuple("aabcdefghh")), (8, 9, 7, 6, 5, 4, 3, 2, 0, 1))
        self.same(an_end(Book(ALL_OF_EIGHT), tuple("habahghbea")), (0, 4, 6, 5, 8, 2, 7, 1, 3, 9))
        book, queue = Book.of("a b; b c"), tuple("abcabcabca")
        end = an_end(book, queue)
        self.same((sorted(end), is_end(book, queue, end)), (list(range(10)), True))

    def test_an_end_can_be_reached(self):
        for pairs, queue, found in CASES:
            end = an_end(Book(pairs), queue)
            self.same({after(Book(pairs), queue, course) for course in found[end]}, {end})

    def test_each_list_is_new(self):
        book, queue = Book.of("a b; b c"), ("a", "b", "c")
        ends = all_ends(book, queue)
        ends.append("more")
        self.same(all_ends(book, queue), [(0, 2, 1), (1, 0, 2)])

    def test_each_way(self):
        queue = ("a", "b", "c")
        self.same_each_way([(0, 2, 1), (1, 0, 2)], all_ends, book=Book.of("a b; b c"), queue=queue)
        self.same_each_way((2, 1, 0), an_end, book=Book.of("a b; a c; b c"), queue=queue)
        self.same_each_way(an_end(Book.of("a b; b c"), queue), an_end, book=Book.of("a b; b c"), queue=queue)


class StepsTest(Checks):
    def test_each_exchange_leads_to_the_next_order(self):
        for pairs, queue, found in CASES[::11]:
            book = Book(pairs)
            for order, ways in found.items():
                for place in places_for(book, queue, order):
                    self.same(after(book, queue, (*ways[0], place)), stepped(order, place))


if __name__ == "__main__":
    unittest.main()
