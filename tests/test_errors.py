import unittest

from tests.samples import odd_values
from whoseuse import errors

NAMES = '''BadAmount NoQuotient BadText BadHouse NoFlat BadDay BadWeighing OtherHouse NoCell BadUse
NoPerson NoMeter BadMorning BadNumbers NoNumber BadNumber BadPlaces BadPaper Contrary TooMany Back
NotYet Past Expected NothingToUndo NothingToRedo BadJournal BadRule BadRun BadReadings BadOffers
BadLine'''.split()


class Errors(unittest.TestCase):

    def test_meter_error_is_directly_below_value_error(self):
        self.assertEqual(errors.MeterError.__bases__, (ValueError,))

    def test_all_others_are_directly_below_meter_error(self):
        self.assertEqual(len(NAMES), 32)
        for name in NAMES:
            self.assertEqual(getattr(errors, name).__bases__, (errors.MeterError,), name)

    def test_names_are_their_own(self):
        for name in NAMES + ['MeterError']:
            self.assertEqual(getattr(errors, name).__name__, name)
            self.assertEqual(getattr(errors, name).__module__, 'whoseuse.errors')

    def test_no_further_errors(self):
        found = [name for name in vars(errors) if isinstance(getattr(errors, name), type)]
        self.assertEqual(sorted(found), sorted(NAMES + ['MeterError']))

    def test_any_value_is_kept_as_it_is(self):
        for name in NAMES + ['MeterError']:
            for value in odd_values() + [0, -1, 10 ** 5000]:
                self.assertIs(getattr(errors, name)(value).value, value, name)

    def test_exactly_one_value(self):
        for name in NAMES + ['MeterError']:
            with self.assertRaises(TypeError):
                getattr(errors, name)()
            with self.assertRaises(TypeError):
                getattr(errors, name)(1, 2)

    def test_raised_and_caught_by_each_name_above(self):
        for name in NAMES:
            for above in (getattr(errors, name), errors.MeterError, ValueError):
                value = [name]
                with self.assertRaises(above) as caught:
                    raise getattr(errors, name)(value)
                self.assertIs(caught.exception.value, value)

    def test_one_is_not_caught_as_another(self):
        with self.assertRaises(errors.BadDay):
            try:
                raise errors.BadDay(1)
            except (errors.BadMorning, errors.BadHouse):
                pass


if __name__ == '__main__':
    unittest.main()
