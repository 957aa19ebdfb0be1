"""Point 2, and the refusals of the interface."""

import inspect
import unittest

from badbegins import errors

FIELDS = {
    "NoNet": {"make": 3},
    "NoOrder": {"place": 0},
    "NoMake": {"make": -(10 ** 60 - 1)},
    "NoTrial": {"place": 7},
    "NoTruth": {"rows": [[0, 1], [2, 3]]},
    "NoPlan": {"path": ("bad", "good"), "word": "shape"},
    "NoBook": {"word": "begin", "place": 0},
    "TooGreat": {"many": 11},
    "NoText": {"row": 2},
    "NoName": {"name": "left"},
    "NothingTold": {},
    "NoRow": {},
}
OTHERS = {
    "NoNet": {"make": -1},
    "NoOrder": {"place": 4},
    "NoMake": {"make": 40},
    "NoTrial": {"place": 0},
    "NoTruth": {"rows": [[5]]},
    "NoPlan": {"path": (), "word": "open"},
    "NoBook": {"word": "less", "place": 9},
    "TooGreat": {"many": 5},
    "NoText": {"row": 0},
    "NoName": {"name": ""},
}


class RefusalsTest(unittest.TestCase):
    def test_base_is_a_value_error(self):
        self.assertEqual(errors.HuntError.__bases__, (ValueError,))

    def test_each_stands_right_under_the_base(self):
        for word in FIELDS:
            with self.subTest(word):
                self.assertEqual(getattr(errors, word).__bases__, (errors.HuntError,))

    def test_there_are_just_the_listed_ones_defined_in_this_file(self):
        found = [
            name for name, thing in vars(errors).items()
            if inspect.isclass(thing) and thing.__module__ == "badbegins.errors"
        ]
        self.assertEqual(sorted(found), sorted([*FIELDS, "HuntError"]))

    def test_none_is_one_of_the_others(self):
        for word, fields in FIELDS.items():
            error = getattr(errors, word)(**fields)
            self.assertIsInstance(error, errors.HuntError)
            self.assertIsInstance(error, ValueError)
            for other in FIELDS:
                self.assertEqual(isinstance(error, getattr(errors, other)), word == other)

    def test_each_bears_just_its_fields_in_the_order_told(self):
        for word, fields in FIELDS.items():
            with self.subTest(word):
                error = getattr(errors, word)(*fields.values())
                self.assertEqual(vars(error), fields)

    def test_fields_by_name(self):
        for word, fields in FIELDS.items():
            with self.subTest(word):
                self.assertEqual(vars(getattr(errors, word)(**fields)), fields)

    def test_made_of_no_more_and_no_less(self):
        for word, fields in FIELDS.items():
            values = list(fields.values())
            with self.subTest(word):
                with self.assertRaises(TypeError):
                    getattr(errors, word)(*values, 1)
                if values:
                    with self.assertRaises(TypeError):
                        getattr(errors, word)(*values[1:])

    def test_two_of_one_class_keep_each_their_own(self):
        for word, fields in OTHERS.items():
            with self.subTest(word):
                one = getattr(errors, word)(**FIELDS[word])
                other = getattr(errors, word)(**fields)
                self.assertEqual(vars(one), FIELDS[word])
                self.assertEqual(vars(other), fields)

    def test_rows_are_kept_as_a_copy(self):
        rows = [[0, 1], [2]]
        error = errors.NoTruth(rows)
        wording = str(error)
        rows[0].append(3)
        rows.append([4])
        self.assertEqual(error.rows, [[0, 1], [2]])
        self.assertEqual(str(error), wording)
        error.rows[1].append(5)
        self.assertEqual(rows, [[0, 1, 3], [2], [4]])

    def test_rows_as_tuples_are_told_as_lists(self):
        self.assertEqual(errors.NoTruth(((0,), (1, 2))).rows, [[0], [1, 2]])

    def test_raised_and_caught_as_each_of_its_kinds(self):
        for word, fields in FIELDS.items():
            kind = getattr(errors, word)
            for caught in (kind, errors.HuntError, ValueError):
                with self.subTest(word, caught=caught):
                    with self.assertRaises(caught) as held:
                        raise kind(**fields)
                    self.assertEqual(vars(held.exception), fields)


if __name__ == "__main__":
    unittest.main()
