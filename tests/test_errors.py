import unittest

from dropsums import errors
from dropsums.errors import DropError, NoAsk, NoFault, NoJoin, NoLines, NoPaper, NoPot, NoRow, NoStep

FIELDS = {
    NoPot: ("line", "word"),
    NoStep: ("place",),
    NoAsk: ("word",),
    NoPaper: ("word", "at"),
    NoLines: ("line",),
    NoFault: ("word", "at"),
    NoJoin: ("word", "at"),
    NoRow: ("text",),
}
VALUES = (0, 1, -7, 10 ** 40, 10 ** 6000, None, "", "shape", "two words", "a\nb")


class TestErrors(unittest.TestCase):
    def test_base(self):
        self.assertEqual(DropError.__bases__, (ValueError,))
        with self.assertRaises(ValueError) as taken:
            raise DropError("a text")
        self.assertEqual(str(taken.exception), "a text")
        for kind in FIELDS:
            self.assertNotIsInstance(DropError("a text"), kind)

    def test_there_are_eight_and_no_more(self):
        kinds = {
            thing for thing in vars(errors).values() if isinstance(thing, type) and issubclass(thing, DropError)
        }
        self.assertEqual(kinds, set(FIELDS) | {DropError})

    def test_each_stands_under_the_base_alone(self):
        for kind in FIELDS:
            self.assertEqual(kind.__bases__, (DropError,))

    def test_each_is_taken_as_itself_and_as_its_bases_and_as_no_other(self):
        for kind, names in FIELDS.items():
            made = kind(*range(len(names)))
            for wanted in (kind, DropError, ValueError):
                with self.assertRaises(wanted):
                    raise made
            for other in FIELDS:
                if other is not kind:
                    self.assertNotIsInstance(made, other)

    def test_fields_keep_what_they_were_made_of(self):
        for kind, names in FIELDS.items():
            for first in range(len(VALUES)):
                values = [VALUES[(first + k) % len(VALUES)] for k in range(len(names))]
                made = kind(*values)
                for name, value in zip(names, values):
                    self.assertIs(type(getattr(made, name)), type(value))
                    self.assertTrue(getattr(made, name) == value)

    def test_fields_are_as_many_as_told(self):
        for kind, names in FIELDS.items():
            with self.assertRaises(TypeError):
                kind(*([0] * (len(names) + 1)))
            with self.assertRaises(TypeError):
                kind(*([0] * (len(names) - 1)))


if __name__ == "__main__":
    unittest.main()
