"""Tests of the whole program: the interface [17], and what its parts tell of one another, (a) to (d) of [1]."""

import importlib
import inspect
import unittest
from itertools import combinations

from checks import Checks, all_pairs, rows
from letahead.alike import alike, common, either, is_queue_against, lets_more, queue_against
from letahead.board import Board
from letahead.books import Book, against_handed_on, handed_on, is_handed_on, is_pairs, lets
from letahead.chains import can_pass, chain_against, is_chain, order_passing
from letahead.changes import Watch
from letahead.courses import all_ends, an_end, is_end, kinds_after
from letahead.desk import answers
from letahead.ends import great_end, most_exchanges, the_end
from letahead.hidden import Survey, surveyed
from letahead.orders import against, can_come, course_to, how_many_orders, is_against, is_course_to, nth_order
from letahead.rules import book_of, is_sizes_for, sizes_for
from letahead.serving import can_be_served, earliest, first_served, latest, served_at
from letahead.texts import order_from, order_text, pairs_from, queue_from, queue_text
from walks import orders_of, reached

FUNCTIONS = {
    "books": """is_pairs(thing) lets(book,one,other) against_handed_on(book) is_handed_on(book) handed_on(book)
        with_pair(book,one,other) without_pair(book,one,other)""",
    "courses": """places_for(book,queue,order) after(book,queue,course) is_course(book,queue,thing) kinds_after(queue,order)
        is_end(book,queue,order) an_end(book,queue) all_ends(book,queue)""",
    "orders": """against(book,queue,order) can_come(book,queue,order) is_against(book,queue,order,thing) exchanges_to(order)
        course_to(book,queue,order) is_course_to(book,queue,order,thing) how_many_orders(book,queue)
        nth_order(book,queue,number) number_of_order(book,queue,order)""",
    "chains": """chain_against(book,queue,one,other) can_pass(book,queue,one,other) is_chain(book,queue,one,other,thing)
        order_passing(book,queue,one,other) first_place(book,queue,person) last_place(book,queue,person)""",
    "ends": "the_end(book,queue) most_exchanges(book,queue) great_end(book,runs) great_exchanges(book,runs)",
    "alike": """lets_more(one,other) queue_against(one,other) is_queue_against(one,other,thing) alike(one,other)
        common(one,other) either(one,other)""",
    "serving": """can_be_served(book,queue,order) first_served(book,queue) earliest(book,queue,one) latest(book,queue,one)
        surely_ahead(book,queue,one) served_at(book,queue,number)""",
    "rules": """is_rules(thing) lets_by(rules,mine,its) plain_rules(rules) same_rules(one,other) book_of(rules,sizes)
        sizes_for(book) is_sizes_for(book,thing)""",
    "hidden": "surveyed(kinds,asker)",
    "texts": """pairs_text(pairs) queue_text(queue) order_text(order) pairs_from(text) queue_from(text) order_from(text)""",
    "desk": "answers(text)",
}
# The arguments, the properties, and the methods with theirs.
CLASSES = {
    ("books", "Book"): ("self,pairs=()", "pairs kinds text", "__len__(self)"),
    ("changes", "Watch"): ("self,book,queue", "book queue persons turned",
                           "exchange(self,place) join(self,kind) leave(self,place) back(self) twin(self) __len__(self)"),
    ("hidden", "Survey"): ("self,kinds", "kinds ask pairs", "tell(self,order) back(self) twin(self) __len__(self)"),
    ("board", "Board"): (
        "self", "names queue deeds",
        """put(self,name,book) drop(self,name) allow(self,name,one,other) forbid(self,name,one,other) join(self,kind)
        leave(self,place) undo(self) twin(self) can_come(self,name,order) end_of(self,name) __len__(self)"""),
}
BOOKS = [Book(pairs) for pairs in all_pairs("abc")]
QUEUES = rows("abc", 3)


def signed(call):
    """The arguments of a function, as they are written."""
    return str(inspect.signature(call)).replace(" ", "")


class InterfaceTest(Checks):
    def test_functions(self):
        for name, told in FUNCTIONS.items():
            module = importlib.import_module("letahead." + name)
            for words in told.split():
                call = getattr(module, words.partition("(")[0])
                self.assertTrue(inspect.isfunction(call))
                self.same((call.__module__, call.__name__ + signed(call)), (module.__name__, words))

    def test_classes(self):
        for (name, told), (given, properties, methods) in CLASSES.items():
            module = importlib.import_module("letahead." + name)
            box = getattr(module, told)
            self.same((box.__module__, signed(vars(box)["__init__"])), (module.__name__, f"({given})"))
            for part in properties.split():
                self.assertIsInstance(vars(box)[part], property)
                self.assertIsNone(vars(box)[part].fset)
            for words in methods.split():
                call = vars(box)[words.partition("(")[0]]
                self.same(call.__name__ + signed(call), words)
            self.assertIn("__eq__", vars(box))

    def test_of_is_a_static_method(self):
        self.assertIsInstance(vars(Book)["of"], staticmethod)
        self.same(signed(Book.of), "(text)")


class FairTest(Checks):
    """(a): the end is the same, whatever the course, exactly if the Book is handed on."""

    def test_one_end_for_all_queues_exactly_if_handed_on(self):
        for book in BOOKS:
            ends = {queue: all_ends(book, queue) for queue in QUEUES}
            self.same(is_handed_on(book), all(len(found) == 1 for found in ends.values()))
            for queue, found in ends.items():
                self.assertIn(an_end(book, queue), found)
                if is_handed_on(book):
                    self.same(found, [the_end(book, queue)])

    def test_otherwise_a_queue_of_three_shows_two(self):
        for book in BOOKS:
            if not is_handed_on(book):
                self.assertGreater(len(all_ends(book, against_handed_on(book))), 1)


class OrdersTest(Checks):
    """(b) and (c): a COURSE shows that an ORDER comes about, or a pair that it can not; a chain that nobody passes."""

    def test_a_course_or_a_pair(self):
        for book in BOOKS:
            for queue in QUEUES:
                for order in orders_of(queue):
                    course, pair = course_to(book, queue, order), against(book, queue, order)
                    self.same((course is None, pair is not None), (not can_come(book, queue, order),) * 2)
                    self.assertTrue(is_against(book, queue, order, pair) if course is None
                                    else is_course_to(book, queue, order, course))

    def test_an_order_or_a_chain(self):
        for book in BOOKS:
            for queue in QUEUES:
                for one, other in combinations(range(len(queue)), 2):
                    order, chain = order_passing(book, queue, one, other), chain_against(book, queue, one, other)
                    self.same((order is not None, chain is None), (can_pass(book, queue, one, other),) * 2)
                    self.assertTrue(is_chain(book, queue, one, other, chain) if order is None
                                    else can_come(book, queue, order) and order.index(other) < order.index(one))


class PartsTest(Checks):
    """(d), and that all parts tell the same of one thing."""

    def test_a_watch_goes_each_course(self):
        for book in BOOKS:
            for queue in QUEUES:
                for number in range(how_many_orders(book, queue)):
                    order = nth_order(book, queue, number)
                    watch = Watch(book, queue)
                    for place in course_to(book, queue, order):
                        watch.exchange(place)
                    self.same((watch.persons, watch.queue), (order, kinds_after(queue, order)))
                    self.assertTrue(can_be_served(book, queue, order))
                    self.same([(low, high) for low, high in watch.turned if not lets(book, queue[low], queue[high])], [])

    def test_a_watch_comes_to_an_end(self):
        for book in BOOKS:
            watch = Watch(book, tuple("abcab"))
            places = [0]
            while places:
                places = [at for at in range(4) if lets(book, watch.queue[at], watch.queue[at + 1])]
                for place in places[:1]:
                    watch.exchange(place)
            self.assertTrue(is_end(book, tuple("abcab"), watch.persons))
            if is_handed_on(book):
                self.same((watch.persons, len(watch)),
                          (the_end(book, tuple("abcab")), most_exchanges(book, tuple("abcab"))))
                runs = [(kind, 1) for kind in "abcab"]
                self.same([kind for kind, many in great_end(book, runs) for _ in range(many)], list(watch.queue))

    def test_a_board_tells_what_the_functions_tell(self):
        for book in BOOKS:
            board = Board()
            board.put("x", book)
            for kind in "acb":
                board.join(kind)
            queue = board.queue
            self.same([order for order in orders_of(queue) if board.can_come("x", order)], reached(book.pairs, queue))
            if is_handed_on(book):
                self.same(board.end_of("x"), the_end(book, queue))

    def test_a_desk_tells_what_the_functions_tell(self):
        for book in BOOKS:
            for queue in QUEUES:
                told = queue_text(queue)
                lines = [f"book x {book.text}", "text x", "handed x", f"first x {told}"]
                lines += [f"{word} x {one} {told}" for one in range(len(queue)) for word in ("earliest", "latest")]
                places = [(earliest(book, queue, one), latest(book, queue, one)) for one in range(len(queue))]
                self.same(answers("\n".join(lines)), [
                    "done", book.text, "yes" if is_handed_on(book) else "no", order_text(first_served(book, queue)),
                    *(str(place) for both in places for place in both)])
                for number in range(len(queue)):
                    self.same(served_at(book, queue, number), tuple(
                        one for one, (least, most) in enumerate(places) if least <= number <= most))

    def test_a_hidden_book_is_told_by_what_two_do(self):
        def asker(queue):
            watch = Watch(book, queue)
            if lets(book, *queue):
                watch.exchange(0)
            return watch.persons

        for book in BOOKS:
            self.same(surveyed(("a", "b", "c"), asker), book.pairs)
            survey = Survey(book.kinds)
            while survey.ask is not None:
                survey.tell(an_end(book, survey.ask))
            self.same(Book(survey.pairs) == book, True)

    def test_books_compared(self):
        for one in BOOKS:
            for other in BOOKS:
                queue = queue_against(one, other)
                self.same((queue is None, alike(one, other)), (lets_more(one, other), one == other))
                self.assertTrue(queue is None or is_queue_against(one, other, queue))
                both = common(one, other)
                self.assertTrue(lets_more(one, both) and lets_more(other, both))
                more = either(one, other)
                self.assertTrue(more is None or lets_more(more, one) and lets_more(more, other))

    def test_what_comes_by_numbers_is_handed_on(self):
        for book in BOOKS:
            found = sizes_for(book)
            if found is not None:
                self.assertTrue(is_sizes_for(book, found))
                self.same((book_of(*found) == book, is_handed_on(book), handed_on(book) == book), (True, True, True))

    def test_what_is_returned_may_be_handed_in_again(self):
        for book in BOOKS:
            self.same((Book(book.pairs) == book, Book.of(book.text) == book, pairs_from(book.text), is_pairs(book.pairs)),
                      (True, True, book.pairs, True))
            for queue in QUEUES:
                end = an_end(book, queue)
                self.same((order_from(order_text(end)), queue_from(queue_text(queue))), (end, queue))
                self.same(is_end(book, queue, end), True)
                self.same(an_end(book, kinds_after(queue, end)), tuple(range(len(queue))))


if __name__ == "__main__":
    unittest.main()
