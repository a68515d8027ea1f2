import copy
import pickle
import unittest

from cuebook import errors

# Each refusal, with the fields in the order in which it is made with them.
REFUSALS = {
    "NoPlay": {"place": 3},
    "NoCounts": {"place": 4},
    "TooFew": {"needed": 5},
    "NoBooks": {"name": "ann"},
    "Apart": {"kind": "clash", "place": 6, "names": ("ann", "bob")},
    "Meets": {"place": 7, "name": "bob"},
    "NoCast": {},
    "NoText": {"row": 8},
    "NoLine": {},
    "Unknown": {"what": "cid"},
}


def made(name):
    return getattr(errors, name)(*REFUSALS[name].values())


class Errors(unittest.TestCase):
    def test_cue_error_is_a_value_error(self):
        self.assertTrue(issubclass(errors.CueError, ValueError))

    def test_each_is_a_cue_error_and_a_value_error(self):
        for name in REFUSALS:
            with self.subTest(name):
                self.assertIsInstance(made(name), errors.CueError)
                self.assertIsInstance(made(name), ValueError)

    def test_none_stands_under_another_one(self):
        for name in REFUSALS:
            for other in REFUSALS:
                if name != other:
                    with self.subTest(name, other=other):
                        self.assertFalse(issubclass(getattr(errors, name), getattr(errors, other)))

    def test_fields_are_as_made(self):
        for name, fields in REFUSALS.items():
            with self.subTest(name):
                self.assertEqual(vars(made(name)), fields)

    def test_fields_by_their_names(self):
        for name, fields in REFUSALS.items():
            with self.subTest(name):
                self.assertEqual(vars(getattr(errors, name)(**fields)), fields)

    def test_no_books_without_a_name(self):
        self.assertIsNone(errors.NoBooks(None).name)

    def test_objects_keep_their_own_fields(self):
        first = errors.NoPlay(1)
        second = errors.NoPlay(2)
        self.assertEqual((first.place, second.place), (1, 2))

    def test_raised_and_taken_as_any_refusal(self):
        for name, fields in REFUSALS.items():
            with self.subTest(name):
                with self.assertRaises(errors.CueError) as taken:
                    raise made(name)
                self.assertEqual(vars(taken.exception), fields)

    def test_copies_have_the_same_fields(self):
        for name, fields in REFUSALS.items():
            with self.subTest(name):
                self.assertEqual(vars(copy.copy(made(name))), fields)
                self.assertEqual(vars(pickle.loads(pickle.dumps(made(name)))), fields)


if __name__ == "__main__":
    unittest.main()
