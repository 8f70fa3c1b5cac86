"""[9], [10], [11]: rows turned and turned back, even rows, and what tells them."""

import unittest
from itertools import product
from math import comb

from facecounts.rows import by_half, by_steps, first_uneven, is_even, is_row, steps, turned, turned_back
from tests.samples import GREAT, NO_PARTS, NO_ROWS, NO_WHOLES, NOTHINGS, check_refused, swapped_in

MANY_FIGURES = (GREAT, -GREAT, GREAT - 1, 7 - GREAT, 10 * GREAT - 1, 1 - 10 * GREAT)
ROWS = tuple(product(range(-2, 3), repeat=1)) + tuple(product(range(-2, 3), repeat=2)) + tuple(
    product(range(-2, 3), repeat=3)) + tuple(product((-1, 0, 2), repeat=4)) + tuple(
    tuple((seed * seed + 31 * at * at * seed) % 61 - 30 for at in range(size))
    for size in range(1, 13) for seed in range(1, 25)) + tuple(
    tuple(MANY_FIGURES[(at + size) % 6] for at in range(size)) for size in range(1, 13))


def model_turned(row):
    """Tell the sum that the point tells, at each place."""
    width = len(row) - 1
    return tuple(
        sum((-1) ** (place - at) * comb(width - at, place - at) * row[at] for at in range(place + 1))
        for place in range(width + 1)
    )


def model_even(row):
    return model_turned(row) == model_turned(row)[::-1]


def some_halves(width):
    """Tell some tuples of one more whole numbers than half of the width."""
    size = width // 2 + 1
    some = [(0,) * size, (1,) + (0,) * (size - 1), (-1,) * size, MANY_FIGURES[:size]]
    for at in range(size):
        some.append(tuple(int(at == place) for place in range(size)))
    for seed in range(1, 12):
        some.append(tuple((seed * seed + 17 * at * at * seed) % 41 - 20 for at in range(size)))
    return some


EVEN_ROWS = tuple(by_steps(width, half) for width in range(12) for half in some_halves(width))


class IsRow(unittest.TestCase):

    def test_rows(self):
        for size in range(1, 13):
            for numbers in (tuple(range(size)), (0,) * size, (-5,) * size, (GREAT,) * size, (-GREAT,) * size):
                self.assertIs(is_row(numbers), True, numbers)
        for row in ROWS:
            self.assertIs(is_row(row), True, row)

    def test_anything_else(self):
        for thing in NO_ROWS:
            self.assertIs(is_row(thing), False, thing)

    def test_twelve_numbers_and_thirteen(self):
        self.assertIs(is_row((1,) * 12), True)
        self.assertIs(is_row((1,) * 13), False)
        self.assertIs(is_row((1,)), True)
        self.assertIs(is_row(()), False)


class Turned(unittest.TestCase):

    def test_known_ones(self):
        for row, there in (
            ((1,), (1,)), ((-7,), (-7,)), ((1, 2), (1, 1)), ((1, 1), (1, 0)), ((1, 3, 3), (1, 1, 1)),
            ((1, 6, 12, 8), (1, 3, 3, 1)), ((1, 5, 5), (1, 3, 1)), ((0, 0, 1), (0, 0, 1)), ((0, 1, 0), (0, 1, -1)),
            ((1, 0, 0), (1, -2, 1)), ((1, 0, 0, 0), (1, -3, 3, -1)), ((1, 4, 5, 2), (1, 1, 0, 0)),
        ):
            self.assertEqual(turned(row), there)
            self.assertEqual(turned_back(there), row)

    def test_the_sum_at_each_place(self):
        for row in ROWS:
            self.assertEqual(turned(row), model_turned(row), row)
            self.assertIs(turned(row).__class__, tuple)

    def test_turned_back(self):
        for row in ROWS:
            self.assertEqual(model_turned(turned_back(row)), row)
            self.assertIs(turned_back(row).__class__, tuple)

    def test_no_row(self):
        for thing in NO_ROWS:
            check_refused(self, "NoRow", turned, thing)
            check_refused(self, "NoRow", turned_back, thing)


class Even(unittest.TestCase):

    def test_known_ones(self):
        for row in ((1,), (0,), (-5,), (GREAT,), (1, 2), (-3, -6), (1, 3, 3), (1, 16, 16), (1, 6, 12, 8), (0,) * 12):
            self.assertIs(is_even(row), True, row)
            self.assertIs(first_uneven(row), None)
        for row, place in (((1, 1), 0), ((1, 3), 0), ((1, 3, 2), 0), ((1, 5, 6), 0), ((1, 6, 12, 7), 0),
                           ((1, 6, 11, 7), 1), ((1, 6, 13, 9), 1), ((-1, 2), 0), ((GREAT, GREAT), 0)):
            self.assertIs(is_even(row), False, row)
            self.assertEqual(first_uneven(row), place, row)
            self.assertIs(first_uneven(row).__class__, int)

    def test_of_each_row(self):
        even = 0
        for row in ROWS + EVEN_ROWS:
            self.assertIs(is_even(row), model_even(row), row)
            even += model_even(row)
        self.assertGreater(even, 200)
        self.assertGreater(len(ROWS), even)

    def test_rows_uneven_at_each_place(self):
        for width in range(1, 12):
            for place in range((width + 1) // 2):
                there = [5 - width] * (width + 1)
                there[width - place] += 3
                row = turned_back(tuple(there))
                self.assertIs(is_even(row), False)
                self.assertEqual(first_uneven(row), place, row)
                if width > 2 * place + 2:
                    there[place + 1] -= 1
                    self.assertEqual(first_uneven(turned_back(tuple(there))), place)

    def test_rows_nearly_even(self):
        for row in EVEN_ROWS:
            for at in range(len(row)):
                for more in (1, -1):
                    near = row[:at] + (row[at] + more,) + row[at + 1:]
                    there = model_turned(near)
                    wrong = [place for place in range(len(near)) if there[place] != there[-1 - place]]
                    self.assertIs(is_even(near), not wrong, near)
                    self.assertEqual(first_uneven(near), wrong[0] if wrong else None, near)

    def test_the_middle_is_never_uneven(self):
        for there in ((1, 50, 1), (1, 2, -50, 2, 1), (GREAT, 0, GREAT)):
            self.assertIs(is_even(turned_back(there)), True)

    def test_no_row(self):
        for thing in NO_ROWS:
            check_refused(self, "NoRow", is_even, thing)
            check_refused(self, "NoRow", first_uneven, thing)


class Steps(unittest.TestCase):

    def test_known_ones(self):
        for row, told in (((1,), (1,)), ((-4,), (-4,)), ((1, 9), (1,)), ((1, 3, 3), (1, 0)), ((1, 5, 5), (1, 2)),
                          ((1, 6, 12, 8), (1, 2)), ((1, 2, 9), (1, -1)), ((1, 8, 24, 32, 16), (1, 3, 2)),
                          ((0, 0, 0, 0, 0), (0, 0, 0)), ((GREAT,), (GREAT,))):
            self.assertEqual(steps(row), told)

    def test_of_each_row(self):
        for row in ROWS + EVEN_ROWS:
            there = model_turned(row)
            told = [there[0]]
            for place in range(1, (len(row) - 1) // 2 + 1):
                told.append(there[place] - there[place - 1])
            self.assertEqual(steps(row), tuple(told), row)
            self.assertIs(steps(row).__class__, tuple)

    def test_no_row(self):
        for thing in NO_ROWS:
            check_refused(self, "NoRow", steps, thing)


class ByHalf(unittest.TestCase):

    def test_known_ones(self):
        for width, numbers, row in ((0, (7,), (7,)), (1, (1,), (1, 2)), (1, (-3,), (-3, -6)), (2, (1, 0), (1, 3, 3)),
                                    (2, (1, 2), (1, 5, 5)), (3, (1, 2), (1, 6, 12, 8)),
                                    (4, (1, 3, 2), (1, 8, 24, 32, 16))):
            self.assertEqual(by_steps(width, numbers), row)
        for width, numbers, row in ((0, (7,), (7,)), (1, (1,), (1, 2)), (1, (-3,), (-3, -6)), (2, (1, 3), (1, 3, 3)),
                                    (2, (1, 5), (1, 5, 5)), (3, (1, 6), (1, 6, 12, 8)),
                                    (4, (1, 8, 24), (1, 8, 24, 32, 16))):
            self.assertEqual(by_half(width, numbers), row)

    def test_steps_of_each_width(self):
        for width in range(12):
            for half in some_halves(width):
                row = by_steps(width, half)
                self.assertIs(is_row(row), True)
                self.assertEqual(len(row), width + 1)
                self.assertTrue(model_even(row), (width, half))
                self.assertEqual(steps(row), half)

    def test_first_numbers_of_each_width(self):
        for width in range(12):
            for half in some_halves(width):
                row = by_half(width, half)
                self.assertIs(is_row(row), True)
                self.assertEqual(len(row), width + 1)
                self.assertTrue(model_even(row), (width, half))
                self.assertEqual(row[:len(half)], half)

    def test_no_width(self):
        for deed in (by_steps, by_half):
            for thing in NO_WHOLES + NOTHINGS + (-1, -2, 12, 13, GREAT, -GREAT):
                for numbers in ((1,), (1, 2), (1, 2, 3, 4, 5, 6, 7), (), [1], None, True, (True,)):
                    check_refused(self, "NoNumber", deed, thing, numbers)

    def test_no_numbers(self):
        for deed in (by_steps, by_half):
            for width in range(12):
                size = width // 2 + 1
                for thing in NOTHINGS + NO_WHOLES[:5] + (7, {}, [1] * size, (1,) * (size + 1), (1,) * (size - 1), (),
                                                         (1,) * (size + 2), (1,) * 2000, "1" * size):
                    check_refused(self, "NoRow", deed, width, thing)
                for part in NO_PARTS:
                    for thing in swapped_in(tuple(range(size)), part):
                        check_refused(self, "NoRow", deed, width, thing)


if __name__ == "__main__":
    unittest.main()
