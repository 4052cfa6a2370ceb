"""Point 9 and the interface of skypasses.errors: the classes, their fields, and where they stand."""

import unittest

from skypasses import errors

WITHOUT = [
    "BadSize", "BadNumber", "BadWish", "BadTime", "BadEar", "NotSo", "NothingToUndo", "NothingToRedo",
]
WITH = [
    ("BadText", (2, 7), ("line", "column")),
    ("BadLook", (3,), ("at",)),
    ("NoPlan", ("turning", 4), ("word", "at")),
    ("Clash", ([0, 2],), ("wishes",)),
    ("BadEntry", (5,), ("at",)),
]
ALL = WITHOUT + [name for name, _, _ in WITH]


class Classes(unittest.TestCase):
    def test_base_stands_under_value_error(self):
        self.assertEqual(errors.SkyError.__bases__, (ValueError,))

    def test_each_stands_directly_under_the_base(self):
        for name in ALL:
            with self.subTest(name):
                self.assertEqual(getattr(errors, name).__bases__, (errors.SkyError,))

    def test_each_is_another_class_and_defined_here(self):
        self.assertEqual(len({getattr(errors, name) for name in ALL}), len(ALL))
        for name in ALL + ["SkyError"]:
            self.assertEqual(getattr(errors, name).__module__, "skypasses.errors")
            self.assertEqual(getattr(errors, name).__name__, name)

    def test_there_are_no_further_ones(self):
        found = [name for name, value in vars(errors).items() if isinstance(value, type)]
        self.assertEqual(sorted(found), sorted(ALL + ["SkyError"]))


class Objects(unittest.TestCase):
    def make_all(self):
        made = [(name, getattr(errors, name)()) for name in WITHOUT]
        return made + [(name, getattr(errors, name)(*args)) for name, args, _ in WITH]

    def test_each_is_of_no_other_class_of_the_program(self):
        for name, error in self.make_all():
            kinds = [other for other in ALL if isinstance(error, getattr(errors, other))]
            self.assertEqual(kinds, [name])
            self.assertIsInstance(error, errors.SkyError)
            self.assertIsInstance(error, ValueError)

    def test_those_without_arguments_take_none_and_have_no_field(self):
        for name in WITHOUT:
            with self.subTest(name):
                self.assertEqual(vars(getattr(errors, name)()), {})

    def test_fields_are_the_arguments(self):
        for name, args, fields in WITH:
            with self.subTest(name):
                error = getattr(errors, name)(*args)
                self.assertEqual(tuple(getattr(error, field) for field in fields), args)
                self.assertEqual(sorted(vars(error)), sorted(fields))

    def test_those_with_arguments_need_just_these(self):
        for name, args, _ in WITH:
            with self.subTest(name):
                with self.assertRaises(TypeError):
                    getattr(errors, name)()
                with self.assertRaises(TypeError):
                    getattr(errors, name)(*args, 1)

    def test_fields_of_two_arguments_are_not_mixed_up(self):
        error = errors.BadText(2, 7)
        self.assertEqual((error.line, error.column), (2, 7))
        error = errors.NoPlan("room", 1)
        self.assertEqual((error.word, error.at), ("room", 1))

    def test_each_can_be_raised_and_caught(self):
        for name, error in self.make_all():
            with self.subTest(name):
                with self.assertRaises(getattr(errors, name)) as caught:
                    raise error
                self.assertIs(caught.exception, error)
                self.assertIsInstance(str(error), str)

    def test_clash_has_a_list_of_its_own(self):
        wishes = [1, 3]
        error = errors.Clash(wishes)
        wishes.append(4)
        self.assertEqual(error.wishes, [1, 3])
        error.wishes.append(5)
        self.assertEqual(wishes, [1, 3, 4])
        self.assertEqual(errors.Clash([]).wishes, [])


if __name__ == "__main__":
    unittest.main()
