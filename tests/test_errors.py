"""Tests of letahead.errors: [2], [17]."""

import unittest

from checks import Checks
from letahead import errors

VALUES = {
    "AllKnown": {},
    "BadAnswer": {"answer": (0, 2)},
    "BadLine": {"number": 3},
    "BadPair": {"place": 4},
    "BadText": {"piece": 5},
    "Known": {"name": "kind"},
    "NoBook": {"name": "hard"},
    "NoKind": {"name": "x"},
    "NoNumber": {"number": 10 ** 30},
    "NoPlace": {"number": -1},
    "NotHandedOn": {},
    "NothingDone": {},
}


class ErrorsTest(Checks):
    def test_queue_error_is_a_value_error(self):
        self.assertTrue(issubclass(errors.QueueError, ValueError))
        self.assertIsNot(errors.QueueError, ValueError)
        self.defined_in(errors, ["QueueError"])

    def test_each_class_is_directly_under_queue_error(self):
        self.defined_in(errors, VALUES)
        for name in VALUES:
            self.assertEqual(getattr(errors, name).__bases__, (errors.QueueError,), name)

    def test_values_by_position_are_kept(self):
        for name, values in VALUES.items():
            error = getattr(errors, name)(*values.values())
            self.same({key: getattr(error, key) for key in values}, values)

    def test_values_by_name_are_kept(self):
        for name, values in VALUES.items():
            error = getattr(errors, name)(**values)
            self.same({key: getattr(error, key) for key in values}, values)

    def test_objects_of_one_class_keep_their_own_values(self):
        first, second = errors.BadPair(1), errors.BadPair(2)
        self.assertEqual((first.place, second.place), (1, 2))

    def test_other_kinds_of_answers_are_kept(self):
        for answer in (None, True, 7, "0 1", (), ((0,), "x"), [0, [1, (2, [])]]):
            self.same(errors.BadAnswer(answer).answer, answer)

    def test_an_answer_is_copied(self):
        answer = [0, [1], ([2],)]
        error = errors.BadAnswer(answer)
        answer[1].append(2)
        answer[2][0].append(3)
        answer.append(4)
        self.same(error.answer, [0, [1], ([2],)])

    def test_each_is_caught_as_queue_error_and_as_value_error(self):
        for name, values in VALUES.items():
            for caught in (errors.QueueError, ValueError):
                with self.assertRaises(caught):
                    raise getattr(errors, name)(**values)

    def test_none_is_caught_as_another_one(self):
        for name, values in VALUES.items():
            error = getattr(errors, name)(**values)
            named = [other for other in VALUES if isinstance(error, getattr(errors, other))]
            self.assertEqual(named, [name])


if __name__ == "__main__":
    unittest.main()
