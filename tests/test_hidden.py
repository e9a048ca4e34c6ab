"""Tests of letahead.hidden: [2], [3], [13] and (d) of [1]."""

import sys
import unittest
from itertools import product

from checks import Checks, all_pairs, numbers_from, tuples
from letahead import hidden
from letahead.books import Book, is_pairs
from letahead.courses import an_end
from letahead.errors import AllKnown, BadAnswer, NothingDone
from letahead.hidden import Survey, surveyed
from walks import NO_NUMBERS, pairs_of, reached, steps

EIGHT = tuple("abcdefgh")
ALL_OF_EIGHT = tuple((one, other) for one in EIGHT for other in EIGHT if one < other)
RING = pairs_of("ab bc ca de ef fd gh")
ENDS = ((0, 1), (1, 0))
BAD = [answer for answer in NO_NUMBERS if answer != [0, 1]] + [
    (), (0,), (1,), (0, 0), (1, 1), (0, 2), (2, 0), (1, 2), (-1, 0), (0, -1), (1, 0, 2), (0, 1, 2), (0, 1, 0), (10 ** 30, 0),
]


def end_by(pairs, queue):
    """The end of a QUEUE of two, by going on while somebody lets."""
    return [order for order in reached(pairs, queue) if not steps(pairs, queue, order)][0]


def calls_in(call):
    """How many calls are made while this one runs, those of builtins left out."""
    names = []

    def note(frame, event, _):
        if event == "call":
            names.append(frame.f_code.co_name)

    before = sys.getprofile()
    sys.setprofile(note)
    try:
        call()
    finally:
        sys.setprofile(before)
    return len(names)


class Told:
    """What a Survey has to tell, kept by the test itself: the QUEUES and their ends, one behind another."""

    def __init__(self, kinds):
        self.kinds, self.rows = kinds, []

    def pairs(self):
        return tuple(sorted(queue for queue, end in self.rows if end == (1, 0)))

    def unknown(self):
        """All QUEUES of two unlike KINDS whose end neither was told nor follows."""
        told = [queue for queue, _ in self.rows]
        return [
            (one, other) for one in self.kinds for other in self.kinds
            if one != other and (one, other) not in told and (other, one) not in self.pairs()
        ]


class SurveyChecks(Checks):
    def looks(self, survey, told):
        """All that the Survey tells is what was told."""
        self.same((survey.kinds, survey.pairs, len(survey)), (told.kinds, told.pairs(), len(told.rows)))
        self.assertTrue(is_pairs(survey.pairs))
        if told.unknown():
            self.assertIn(survey.ask, told.unknown())
            self.assertIsInstance(survey.ask, tuple)
        else:
            self.assertIsNone(survey.ask)

    def tells(self, survey, told, order):
        """The Survey takes this end of the QUEUE that it asks."""
        told.rows.append((survey.ask, tuple(order)))
        self.assertIsNone(survey.tell(order))
        self.looks(survey, told)

    def takes_back(self, survey, told):
        if told.rows:
            told.rows.pop()
            self.assertIsNone(survey.back())
        else:
            self.refused(NothingDone, {}, survey.back)
        self.looks(survey, told)


class ExamplesTest(Checks):
    def test_survey(self):
        survey = Survey(("a", "b"))
        self.same((survey.ask in (("a", "b"), ("b", "a")), survey.pairs, survey.kinds, len(survey)),
                  (True, (), ("a", "b"), 0))
        asked = survey.ask
        survey.tell((1, 0))
        self.same(
            (survey.ask, survey.pairs == (asked,), len(survey), survey.twin() == survey, survey == Survey(("a", "b"))),
            (None, True, 1, True, False))
        self.refused(AllKnown, {}, survey.tell, (0, 1))
        self.refused(BadAnswer, {"answer": (0, 2)}, Survey(("a", "b")).tell, (0, 2))
        self.refused(NothingDone, {}, Survey(("a",)).back)

    def test_surveyed(self):
        book = Book((("a", "b"), ("c", "a")))
        self.same(
            (surveyed(("a", "b", "c"), lambda queue: an_end(book, queue)), surveyed((), lambda queue: (0, 1))),
            ((("a", "b"), ("c", "a")), ()))

    def test_what_stands_here_is_defined_here(self):
        self.defined_in(hidden, ["Survey", "surveyed"])
        for name in ("__init__", "kinds", "ask", "pairs", "tell", "back", "twin", "__len__", "__eq__"):
            self.assertIn(name, vars(Survey))


class SurveyTest(SurveyChecks):
    def test_all_rows_of_ends(self):
        for kinds in ((), ("a",), ("a", "b"), ("a", "b", "c")):
            for ends in product(ENDS, repeat=len(kinds) * (len(kinds) - 1)):
                survey, told = Survey(kinds), Told(kinds)
                self.looks(survey, told)
                for end in ends:
                    if told.unknown():
                        self.tells(survey, told, end)
                    else:
                        self.refused(AllKnown, {}, survey.tell, end)
                        self.looks(survey, told)
                while told.rows:
                    self.takes_back(survey, told)
                self.takes_back(survey, told)

    def test_eight_kinds(self):
        for pairs in (ALL_OF_EIGHT, tuple(pair[::-1] for pair in ALL_OF_EIGHT), RING, (), ALL_OF_EIGHT[::3]):
            survey, told = Survey(EIGHT), Told(EIGHT)
            while survey.ask is not None:
                self.tells(survey, told, end_by(pairs, survey.ask))
            self.same(survey.pairs, tuple(sorted(pairs)))
            self.same(told.unknown(), [])
            self.refused(AllKnown, {}, survey.tell, (0, 1))
            self.assertLessEqual(len(survey), 56)

    def test_there_and_back(self):
        luck = numbers_from(5)
        for kinds in (("a", "b", "c"), ("a", "b", "c", "d"), EIGHT):
            survey, told = Survey(kinds), Told(kinds)
            for _ in range(300):
                if next(luck) % 5 < 2:
                    self.takes_back(survey, told)
                elif told.unknown():
                    self.tells(survey, told, ENDS[next(luck) % 2])
                else:
                    self.refused(AllKnown, {}, survey.tell, (0, 1))
                    self.looks(survey, told)

    def test_other_ends_are_told_behind_taking_back(self):
        survey, told = Survey(("a", "b")), Told(("a", "b"))
        first = survey.ask
        self.tells(survey, told, (1, 0))
        self.takes_back(survey, told)
        self.same(survey.ask, first)
        self.tells(survey, told, (0, 1))
        self.same(survey.ask, first[::-1])
        self.tells(survey, told, (1, 0))
        self.same((survey.ask, survey.pairs), (None, (first[::-1],)))

    def test_no_kinds_and_one(self):
        for kinds in ((), ("a",), ("abcdefgh",)):
            survey = Survey(kinds)
            self.looks(survey, Told(kinds))
            for order in (*ENDS, *BAD):
                self.refused(AllKnown, {}, survey.tell, order)
            self.refused(NothingDone, {}, survey.back)
            self.looks(survey, Told(kinds))

    def test_bad_answers(self):
        for ends in ((), ((0, 1),), ((1, 0), (0, 1))):
            for answer in BAD:
                survey, told = Survey(("a", "b", "c")), Told(("a", "b", "c"))
                for end in ends:
                    self.tells(survey, told, end)
                self.refused(BadAnswer, {"answer": tuples(answer)}, survey.tell, answer)
                self.looks(survey, told)

    def test_tuples_stand_in_the_place_of_lists(self):
        for answer, wanted in (([0, 2], (0, 2)), ([1, [0]], (1, (0,))), ([[1, 0]], ((1, 0),)), (([], 0), ((), 0)),
                               ([True, False], (True, False)), ([(1, [2]), ()], ((1, (2,)), ()))):
            self.refused(BadAnswer, {"answer": wanted}, Survey(("a", "b")).tell, answer)
            self.refused(BadAnswer, {"answer": wanted}, surveyed, ("a", "b"), lambda queue: answer)

    def test_lists_and_names(self):
        survey, told = Survey(kinds=["a", "b", "c"]), Told(("a", "b", "c"))
        for end in ([1, 0], [0, 1], (0, 1)):
            self.tells(survey, told, end)
        other, told = Survey(["a", "b"]), Told(("a", "b"))
        told.rows.append((other.ask, (0, 1)))
        self.assertIsNone(other.tell(order=[0, 1]))
        self.looks(other, told)
        self.refused(BadAnswer, {"answer": (1, 1)}, other.tell, order=[1, 1])


class ObjectTest(SurveyChecks):
    def test_what_is_given_is_copied_and_not_changed(self):
        kinds, order = ["a", "b", "c"], [1, 0]
        survey = Survey(kinds)
        asked = survey.ask
        survey.tell(order)
        self.same((kinds, order), (["a", "b", "c"], [1, 0]))
        kinds.pop()
        order.reverse()
        self.same((survey.kinds, survey.pairs), (("a", "b", "c"), (asked,)))

    def test_equal_by_kinds_and_what_was_told(self):
        found = []
        for kinds in ((), ("a",), ("a", "b"), ("a", "c"), ("a", "b", "c")):
            for many in range(4):
                for ends in product(ENDS, repeat=many):
                    survey = Survey(list(kinds))
                    other = Survey(kinds)
                    for end in ends:
                        if survey.ask is not None:
                            survey.tell(end)
                            other.tell(list(end))
                    # What was taken back does not count.
                    if other.ask is not None:
                        other.tell((0, 1))
                        other.back()
                    self.same((survey == other, survey != other, survey.ask), (True, False, other.ask))
                    found.append(((survey.kinds, len(survey), ends[:len(survey)]), survey))
        for (one, first), (other, second) in product(found, repeat=2):
            self.same((first == second, first != second), (one == other, one != other))

    def test_equal_to_nothing_else(self):
        for kinds in ((), ("a", "b")):
            survey = Survey(kinds)
            for thing in (None, True, 0, (), kinds, list(kinds), "ab", Book(), survey.pairs, (kinds, []), {}):
                self.same((survey == thing, thing == survey, survey != thing), (False, False, True))

    def test_properties_have_no_setters(self):
        survey = Survey(("a", "b"))
        for name in ("kinds", "pairs", "ask"):
            with self.assertRaises(AttributeError):
                setattr(survey, name, getattr(survey, name))
        self.looks(survey, Told(("a", "b")))

    def test_a_twin_shares_nothing(self):
        for ends in product(ENDS, repeat=3):
            for turned in (False, True):
                survey, told, more = Survey(("a", "b", "c")), Told(("a", "b", "c")), Told(("a", "b", "c"))
                for end in ends[:2]:
                    more.rows.append((survey.ask, end))
                    self.tells(survey, told, end)
                twin = survey.twin()
                self.assertIsInstance(twin, Survey)
                self.same((twin == survey, survey == twin, twin.ask == survey.ask), (True, True, True))
                one, other = (twin, survey) if turned else (survey, twin)
                if told.unknown():
                    self.tells(one, told, ends[2])
                self.looks(other, more)
                self.takes_back(other, more)
                self.looks(one, told)
                self.tells(other, more, ends[2])
                self.looks(one, told)
                while told.rows:
                    self.takes_back(one, told)
                self.looks(other, more)


class SurveyedTest(Checks):
    def asked(self, kinds, pairs, made):
        """What surveyed tells, and which QUEUES it asks; each end is made by made."""
        queues = []

        def asker(queue):
            queues.append(queue)
            return made(end_by(pairs, queue))

        found = surveyed(kinds, asker)
        self.same(found, tuple(sorted(pairs)))
        return queues

    def test_all_small_books(self):
        for kinds in ("", "a", "ab", "abc", "abcd"):
            for pairs in all_pairs(kinds):
                queues = self.asked(tuple(kinds), pairs, tuple)
                self.same(self.asked(list(kinds), pairs, list), queues)
                self.same(len(set(queues)), len(queues))
                for at, (one, other) in enumerate(queues):
                    self.assertTrue(one != other and one in kinds and other in kinds)
                    self.assertFalse((other, one) in queues[:at] and (other, one) in pairs)

    def test_kinds_that_are_no_pair(self):
        self.asked(EIGHT, pairs_of("ah"), tuple)
        self.asked(EIGHT, (), tuple)
        self.asked(("a", "abcdefgh", "b"), (("abcdefgh", "a"),), tuple)

    def test_eight_kinds(self):
        for pairs in (ALL_OF_EIGHT, RING, tuple(pair[::-1] for pair in ALL_OF_EIGHT)):
            self.assertLessEqual(len(self.asked(EIGHT, pairs, list)), 56)

    def test_no_work_is_done_again_for_each_end(self):
        # So many calls for each end that is told, however many ends were told ahead of it.
        for end in ENDS:
            for many in range(2, 9):
                queues = []

                def asker(queue):
                    queues.append(queue)
                    return end

                calls = calls_in(lambda: surveyed(EIGHT[:many], asker))
                self.assertLessEqual(calls, 20 * len(queues) + 20)

    def test_bad_answers(self):
        for answer in ((0, 2), (), None, "10", (True, False), (1, 0, 0), 1):
            self.refused(BadAnswer, {"answer": answer}, surveyed, ("a", "b"), lambda queue: answer)
            self.refused(BadAnswer, {"answer": answer}, surveyed, kinds=["a", "b"], asker=lambda queue: answer)
            later = iter([(0, 1), [1, 0], answer])
            self.refused(BadAnswer, {"answer": answer}, surveyed, ("a", "b", "c"), lambda queue: next(later))

    def test_what_asker_raises_is_passed_on(self):
        def asker(queue):
            raise told

        for told in (KeyError("a"), ValueError("b"), AllKnown(), BadAnswer([7]), NothingDone(), TypeError(), StopIteration(),
                     RuntimeError("c"), AttributeError("d")):
            with self.assertRaises(Exception) as caught:
                surveyed(("a", "b"), asker)
            self.assertIs(caught.exception, told)
        self.same(surveyed(("a",), asker), ())

    def test_each_way(self):
        book = Book.of("a b; c a")
        self.same_each_way((("a", "b"), ("c", "a")), surveyed, kinds=("a", "b", "c"),
                           asker=lambda queue: list(an_end(book, queue)))


if __name__ == "__main__":
    unittest.main()
