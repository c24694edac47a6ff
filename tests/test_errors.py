"""The classes of refusals: promise 2 and the interface's section on errors."""

from lotheads import errors
from tests.helper import Case

NAMES = (
    "NoThing NoForest NoShort NoMany NoJoin NoDeed NoWorth NoMoment NoNumber NoBack NoMark NoPair NoRest NoFit "
    "NoWeight NoLots NoBoard NoText NoRow"
).split()


class Errors(Case):
    def test_the_base_is_a_value_error(self):
        self.assertTrue(issubclass(errors.LotError, ValueError))

    def test_each_class_stands_under_the_base(self):
        for name in NAMES:
            self.assertTrue(issubclass(getattr(errors, name), errors.LotError), name)

    def test_no_class_stands_under_another_one(self):
        for name in NAMES:
            for other in NAMES:
                under = issubclass(getattr(errors, name), getattr(errors, other))
                self.assertEqual(name == other, under, (name, other))
            self.assertFalse(issubclass(errors.LotError, getattr(errors, name)), name)

    def test_deeds_have_the_field_number(self):
        for number in (0, 7, 59, None):
            self.assertEqual(number, errors.NoDeed(number).number)

    def test_texts_have_the_field_row(self):
        for row in (0, 7, 60):
            self.assertEqual(row, errors.NoText(row).row)

    def test_each_can_be_raised_and_caught_by_the_base(self):
        for name in NAMES:
            with self.assertRaises(errors.LotError):
                raise getattr(errors, name)("why")
