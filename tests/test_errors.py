import unittest

from figurewheel.errors import (
    NoBase, NoLine, NoMachine, NoName, NoPair, NoStep, NoText, NotLike, NoWords, TooGreat, TooWide, WheelError,
)

MADE_OF_NOTHING = [NoBase, TooGreat, NotLike, NoStep, NoLine]

MADE_OF_WHAT_THEY_TELL = [
    (NoMachine, ("word", "number"), [("rooms", 0), ("letters", 7), ("front", 0), ("next", 99)]),
    (NoText, ("at",), [(0,), (3,), (2000,)]),
    (NoWords, ("letter",), [("a",), ("z",)]),
    (NoPair, ("pair",), [((0, 0),), ((9, 1),)]),
    (TooWide, ("many",), [(3,), (5,)]),
    (NoName, ("name",), [("n",), ("places",), ("A",)]),
]


def one_of_each():
    told = [kind() for kind in MADE_OF_NOTHING]
    return told + [kind(*handed[0]) for kind, fields, handed in MADE_OF_WHAT_THEY_TELL]


def is_taken_by(kind, error):
    try:
        raise error
    except kind:
        return True
    except Exception:
        return False


class Errors(unittest.TestCase):
    def test_there_are_eleven(self):
        self.assertEqual(len({type(error) for error in one_of_each()}), 11)

    def test_the_base_stands_straight_under_value_error(self):
        self.assertEqual(WheelError.__bases__, (ValueError,))
        self.assertTrue(is_taken_by(ValueError, WheelError()))

    def test_base_and_value_error_take_each(self):
        for error in one_of_each():
            with self.subTest(error=type(error)):
                self.assertTrue(is_taken_by(WheelError, error))
                self.assertTrue(is_taken_by(ValueError, error))

    def test_no_other_takes_it(self):
        for error in one_of_each():
            for kind in [type(other) for other in one_of_each()]:
                with self.subTest(error=type(error), kind=kind):
                    self.assertEqual(is_taken_by(kind, error), kind is type(error))

    def test_none_takes_the_base(self):
        for error in one_of_each():
            self.assertFalse(is_taken_by(type(error), WheelError()))

    def test_fields(self):
        for kind, fields, all_handed in MADE_OF_WHAT_THEY_TELL:
            for handed in all_handed:
                with self.subTest(kind=kind, handed=handed):
                    error = kind(*handed)
                    self.assertEqual(tuple(getattr(error, field) for field in fields), handed)

    def test_fields_are_each_object_s_own(self):
        for kind, fields, all_handed in MADE_OF_WHAT_THEY_TELL:
            errors = [kind(*handed) for handed in all_handed]
            told = [tuple(getattr(error, field) for field in fields) for error in errors]
            self.assertEqual(told, all_handed)

    def test_those_made_of_nothing_take_nothing_in(self):
        for kind in MADE_OF_NOTHING:
            self.assertEqual(vars(kind()), {})


if __name__ == "__main__":
    unittest.main()
