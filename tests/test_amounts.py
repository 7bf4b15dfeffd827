import operator
import unittest
from fractions import Fraction

from tests.samples import SMALL, odd_values, without
from whoseuse.amounts import Amount, as_amount
from whoseuse.errors import BadAmount, BadText, NoQuotient
from whoseuse.houses import House
from whoseuse.weighings import Weighing

ARITHMETIC = [operator.add, operator.sub, operator.mul, operator.floordiv]
ORDER = [operator.lt, operator.le, operator.gt, operator.ge]
SOME = [Fraction(number, under) for number in range(-7, 8) for under in range(1, 6)]


def made(fraction):
    return Amount(fraction.numerator, fraction.denominator)


def no_operands():
    """Values that are neither Amounts nor integers; bools are among them. (Weighings tell of their own operators.)"""
    return without(odd_values(), (Amount, int, Weighing))


class Kept(unittest.TestCase):

    def check(self, amount, number, under):
        self.assertEqual((amount.number, amount.under), (number, under))
        self.assertIs(amount.number.__class__, int)
        self.assertIs(amount.under.__class__, int)

    def test_least_terms(self):
        self.check(Amount(6, 4), 3, 2)
        self.check(Amount(4, 2), 2, 1)
        self.check(Amount(3, 4), 3, 4)
        self.check(Amount(-6, 3), -2, 1)

    def test_nought(self):
        self.check(Amount(0), 0, 1)
        self.check(Amount(0, 7), 0, 1)
        self.check(Amount(0, -7), 0, 1)

    def test_positive_under(self):
        self.check(Amount(6, -4), -3, 2)
        self.check(Amount(-6, -4), 3, 2)
        self.check(Amount(5, -1), -5, 1)
        self.check(Amount(-5, -5), 1, 1)

    def test_under_left_out(self):
        self.check(Amount(5), 5, 1)
        self.check(Amount(-5), -5, 1)

    def test_by_name(self):
        self.check(Amount(number=3, under=-6), -1, 2)
        self.check(Amount(under=2, number=6), 3, 1)
        self.check(Amount(number=3), 3, 1)

    def test_great_numbers(self):
        self.check(Amount(10 ** 300, 10 ** 299 * 3), 10, 3)
        self.check(Amount(999999999, -999999998), -999999999, 999999998)

    def test_as_fractions_are(self):
        for number in range(-30, 31):
            for under in list(range(-30, 0)) + list(range(1, 31)):
                told = Fraction(number, under)
                self.check(Amount(number, under), told.numerator, told.denominator)


class Refused(unittest.TestCase):

    def check(self, number, under):
        with self.assertRaises(BadAmount) as caught:
            Amount(number, under)
        value = caught.exception.value
        self.assertIsInstance(value, tuple)
        self.assertEqual(len(value), 2)
        self.assertIs(value[0], number)
        self.assertIs(value[1], under)

    def test_under_nought(self):
        self.check(1, 0)
        self.check(0, 0)
        self.check(-3, 0)

    def test_no_integers(self):
        for value in without(odd_values(), int):
            self.check(value, 1)
            self.check(1, value)
            self.check(value, 0)
            self.check(value, value)

    def test_the_default_is_told_too(self):
        with self.assertRaises(BadAmount) as caught:
            Amount('3')
        self.assertEqual(caught.exception.value, ('3', 1))
        with self.assertRaises(BadAmount) as caught:
            Amount(True)
        self.assertIs(caught.exception.value[0], True)

    def test_as_handed_in_not_in_least_terms(self):
        with self.assertRaises(BadAmount) as caught:
            Amount(6, 0)
        self.assertEqual(caught.exception.value, (6, 0))


class Texts(unittest.TestCase):

    def test_text(self):
        self.assertEqual(Amount(3).text, '3')
        self.assertEqual(Amount(-3, 4).text, '-3/4')
        self.assertEqual(Amount(3, -4).text, '-3/4')
        self.assertEqual(Amount(0, 5).text, '0')
        self.assertEqual(Amount(-12).text, '-12')
        self.assertEqual(Amount(8, 6).text, '4/3')

    def test_repr(self):
        self.assertEqual(repr(Amount(3)), 'Amount(3)')
        self.assertEqual(repr(Amount(-3, 4)), 'Amount(-3, 4)')
        self.assertEqual(repr(Amount(6, -4)), 'Amount(-3, 2)')
        self.assertEqual(repr(Amount(0)), 'Amount(0)')
        self.assertEqual(repr([Amount(-7)]), '[Amount(-7)]')

    def test_text_is_as_str_writes(self):
        for power in list(range(0, 130)) + [299, 300, 301, 999]:
            for number in (10 ** power - 1, 10 ** power, 10 ** power + 1, -(7 ** power)):
                self.assertEqual(Amount(number).text, str(number))
                self.assertEqual(repr(Amount(number)), f'Amount({number})')

    def test_repr_of_what_str_refuses_to_write(self):
        self.assertEqual(repr(Amount(-(10 ** 6000))), 'Amount(-1' + '0' * 6000 + ')')

    def test_of_is_the_way_back(self):
        for told in SOME:
            amount = made(told)
            again = Amount.of(amount.text)
            self.assertEqual((again.number, again.under), (told.numerator, told.denominator))

    def test_of_plain_texts(self):
        self.assertEqual(Amount.of('-3/4'), Amount(-3, 4))
        self.assertEqual(Amount.of('0'), Amount(0))
        self.assertEqual(Amount.of('10'), Amount(10))
        self.assertEqual(Amount.of('-10/9'), Amount(-10, 9))
        self.assertEqual(Amount.of(text='1/2'), Amount(1, 2))
        self.assertIsInstance(Amount.of('3'), Amount)

    def test_of_hundreds_of_figures(self):
        top, under = '1' + '0' * 998 + '1', '9' * 999
        self.assertEqual(Amount.of(top).text, top)
        self.assertEqual(Amount.of('-' + top).text, '-' + top)
        told = Fraction(int(top), 10 ** 998)
        self.assertEqual(Amount.of(f'{told.numerator}/{told.denominator}').number, told.numerator)
        self.assertEqual(Amount.of('1/' + under).under, int(under))

    def test_of_other_texts(self):
        texts = ['', '-', '/', '-/', '1/', '/2', '-/2', '+3', '--3', '- 3', ' 3', '3 ', '3\n', '\n3',
                 '03', '-03', '00', '-0', '+0', '3/1', '-3/1', '2/4', '-2/4', '0/5', '0/1', '-0/3',
                 '3/-4', '-3/-4', '3/+4', '3/04', '03/4', '3 / 4', '3/ 4', '3 /4', '3/0', '0/0',
                 '3/4/5', '3//4', '3.0', '3.5', '1e3', '1_000', '1,5', '0x1', 'a', 'Amount(3)', 'one',
                 'None', '3-', '3/4-', '3\n4', '0' * 500 + '1', '1/' + '0' * 500 + '3',
                 '2' * 400 + '/' + '2' * 400, '-' + '0' * 300]
        for text in texts:
            with self.assertRaises(BadText, msg=text) as caught:
                Amount.of(text)
            self.assertIs(caught.exception.value, text)

    def test_of_no_strings(self):
        for value in without(odd_values(), str) + [0, 3, -1]:
            with self.assertRaises(BadText) as caught:
                Amount.of(value)
            self.assertIs(caught.exception.value, value)

    def test_of_odd_strings(self):
        for value in ['a', 'main', '\n', SMALL]:
            with self.assertRaises(BadText) as caught:
                Amount.of(value)
            self.assertIs(caught.exception.value, value)


class Handed(unittest.TestCase):

    def test_as_amount(self):
        amount = Amount(1, 2)
        self.assertIs(as_amount(amount), amount)
        self.assertEqual(repr(as_amount(-7)), 'Amount(-7)')


class Arithmetic(unittest.TestCase):

    def check(self, result, told):
        self.assertIsInstance(result, Amount)
        self.assertEqual((result.number, result.under), (told.numerator, told.denominator))

    def test_between_amounts(self):
        for one in SOME:
            for other in SOME:
                self.check(made(one) + made(other), one + other)
                self.check(made(one) - made(other), one - other)
                self.check(made(one) * made(other), one * other)
                if other:
                    self.check(made(one) // made(other), one / other)

    def test_integers_on_either_side(self):
        for one in SOME:
            for other in range(-4, 5):
                self.check(made(one) + other, one + other)
                self.check(other + made(one), other + one)
                self.check(made(one) - other, one - other)
                self.check(other - made(one), other - one)
                self.check(made(one) * other, one * other)
                self.check(other * made(one), other * one)
                if other:
                    self.check(made(one) // other, one / other)
                if one:
                    self.check(other // made(one), other / one)

    def test_nothing_is_rounded(self):
        self.check(Amount(7) // 2, Fraction(7, 2))
        self.check(7 // Amount(-2), Fraction(-7, 2))
        self.check(Amount(1) // 3, Fraction(1, 3))

    def test_sign_and_abs(self):
        for one in SOME:
            self.check(-made(one), -one)
            self.check(abs(made(one)), abs(one))

    def test_great_numbers(self):
        one, other = Fraction(10 ** 200 + 1, 3 ** 90), Fraction(-(7 ** 100), 10 ** 150)
        for act in (operator.add, operator.sub, operator.mul):
            self.check(act(made(one), made(other)), act(one, other))
        self.check(made(one) // made(other), one / other)

    def test_products_may_grow_beyond_what_str_writes(self):
        one = Amount(999999999)
        for _ in range(10):
            one = one * one
        self.assertEqual(one.number, 999999999 ** 1024)
        self.assertEqual((one // one, one - one, one > one - 1), (1, 0, True))

    def test_operands_stay_as_they_are(self):
        one, other = Amount(1, 2), Amount(-2, 3)
        for act in ARITHMETIC:
            act(one, other)
        one += other
        self.check(one, Fraction(-1, 6))
        self.check(other, Fraction(-2, 3))

    def test_by_nought(self):
        left = Amount(3, 4)
        for nought in (0, Amount(0)):
            with self.assertRaises(NoQuotient) as caught:
                left // nought
            self.assertIs(caught.exception.value, left)

    def test_by_nought_with_an_integer_on_the_left(self):
        for left in (3, 0, -2, 123456789):
            with self.assertRaises(NoQuotient) as caught:
                left // Amount(0)
            self.assertIs(caught.exception.value, left)
            self.assertIs(caught.exception.value.__class__, int)

    def test_nought_by_nought(self):
        nought = Amount(0)
        with self.assertRaises(NoQuotient) as caught:
            nought // nought
        self.assertIs(caught.exception.value, nought)

    def test_nought_by_something(self):
        self.check(0 // Amount(3), Fraction(0))
        self.check(Amount(0) // -3, Fraction(0))

    def test_no_operands(self):
        for value in no_operands():
            for act in ARITHMETIC:
                for one in (Amount(1), Amount(0), Amount(1, 2)):
                    with self.assertRaises(TypeError):
                        act(one, value)
                    with self.assertRaises(TypeError):
                        act(value, one)

    def test_operators_that_are_not_described(self):
        for act in (operator.truediv, operator.mod, operator.pow, divmod):
            with self.assertRaises(TypeError):
                act(Amount(3), Amount(2))
            with self.assertRaises(TypeError):
                act(3, Amount(2))


class Compared(unittest.TestCase):

    def test_between_amounts(self):
        for one in SOME:
            for other in SOME:
                for act in ORDER + [operator.eq, operator.ne]:
                    self.assertIs(act(made(one), made(other)), act(one, other))

    def test_with_integers_on_either_side(self):
        for one in SOME:
            for other in range(-7, 8):
                for act in ORDER + [operator.eq, operator.ne]:
                    self.assertIs(act(made(one), other), act(one, other))
                    self.assertIs(act(other, made(one)), act(other, one))

    def test_near_great_ones(self):
        one, other = Amount(10 ** 300 + 1, 10 ** 300), Amount(10 ** 300 + 2, 10 ** 300 + 1)
        self.assertTrue(one > other)
        self.assertTrue(other < one)
        self.assertFalse(one == other)

    def test_equal_to_nothing_else(self):
        for amount in (Amount(0), Amount(1), Amount(1, 2)):
            for value in no_operands():
                self.assertIs(amount == value, False)
                self.assertIs(value == amount, False)
                self.assertIs(amount != value, True)

    def test_true_is_not_1(self):
        self.assertIs(Amount(1) == True, False)  # noqa: E712
        self.assertIs(True == Amount(1), False)  # noqa: E712
        self.assertIs(Amount(0) == False, False)  # noqa: E712
        self.assertIs(Amount(1) == 1, True)
        self.assertNotIn(Amount(1), [True, '1', (1,)])

    def test_no_order_with_anything_else(self):
        for value in no_operands():
            for act in ORDER:
                with self.assertRaises(TypeError):
                    act(Amount(1), value)
                with self.assertRaises(TypeError):
                    act(value, Amount(1))

    def test_houses_are_no_operands(self):
        with self.assertRaises(TypeError):
            Amount(1) + House(SMALL)


if __name__ == '__main__':
    unittest.main()
