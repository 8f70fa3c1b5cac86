"""[14], [15]: ways to choose, writings, and how many there are above and below."""

import unittest
from itertools import combinations, combinations_with_replacement
from math import comb

from facecounts.chosen import bags_above, choose, is_writing, least_below, most_above, writing
from tests.samples import GREAT, NO_PARTS, NO_WHOLES, NOTHINGS, check_refused, rows_taken, swapped_in, without_one

MOST = 10 ** 12
GREAT_NUMBERS = (MOST, MOST - 1, MOST // 3, 10 ** 9 + 7, 2 ** 39, comb(58, 12), comb(58, 12) - 1, comb(58, 12) + 1)
NO_NUMBERS = NOTHINGS + NO_WHOLES + (-1, MOST + 1, GREAT, -GREAT)
NO_SIZES = NOTHINGS + NO_WHOLES + (0, -1, 13, 14, GREAT, -GREAT)


def is_due(numbers, number, size):
    """Tell whether these are a writing of the number above 0, by the words of the point."""
    chosen = [size - at for at in range(len(numbers))]
    return (
        1 <= len(numbers) <= size
        and all(one > other for one, other in zip(numbers, numbers[1:]))
        and all(things >= part for things, part in zip(numbers, chosen))
        and sum(comb(things, part) for things, part in zip(numbers, chosen)) == number
    )


def falling(high, size):
    """Tell all tuples of one to so many numbers below high that may be writings by this size."""
    found = []
    for first in range(size, high):
        found.append((first,))
        if size > 1:
            found += [(first,) + rest for rest in falling(first, size - 1)]
    return found


class Choose(unittest.TestCase):

    def test_known_ones(self):
        for things, number, told in ((0, 0, 1), (0, 1, 0), (0, 12, 0), (1, 1, 1), (5, 2, 10), (12, 12, 1), (11, 12, 0),
                                     (13, 12, 13), (6, 3, 20), (MOST, 0, 1), (MOST, 1, MOST),
                                     (MOST, 2, MOST * (MOST - 1) // 2), (3, 4, 0)):
            self.assertEqual(choose(things, number), told)

    def test_of_each_small_number(self):
        for things in range(40):
            for number in range(13):
                self.assertEqual(choose(things, number), comb(things, number))
                self.assertIs(choose(things, number).__class__, int)

    def test_of_great_numbers(self):
        for things in GREAT_NUMBERS:
            for number in range(13):
                self.assertEqual(choose(things, number), comb(things, number))

    def test_no_number(self):
        for thing in NO_NUMBERS:
            for number in (0, 1, 12, 13, None):
                check_refused(self, "NoNumber", choose, thing, number)
        for thing in NO_SIZES:
            if thing.__class__ is not int or thing != 0:
                for things in (0, 1, 5, MOST, -1):
                    check_refused(self, "NoNumber", choose, things, thing)


class Writing(unittest.TestCase):

    def test_known_ones(self):
        for number, size, told in ((0, 1, ()), (0, 12, ()), (1, 1, (1,)), (7, 1, (7,)), (1, 3, (3,)), (2, 3, (3, 2)),
                                   (3, 3, (3, 2, 1)), (4, 3, (4,)), (10, 2, (5,)), (11, 2, (5, 1)), (14, 2, (5, 4)),
                                   (28, 3, (6, 4, 2)), (12, 12, tuple(range(12, 0, -1))), (13, 12, (13,)),
                                   (MOST, 1, (MOST,)), (MOST, 2, (1414214, 88209))):
            self.assertEqual(writing(number, size), told, (number, size))

    def test_of_small_numbers_all_the_way(self):
        for size in range(1, 13):
            for number in range(1, 1500):
                self.assertTrue(is_due(writing(number, size), number, size), (number, size))
            self.assertEqual(writing(0, size), ())

    def test_there_is_just_one(self):
        for size, high in ((1, 50), (2, 20), (3, 12), (4, 11), (5, 10), (6, 10)):
            found = {}
            for numbers in falling(high, size):
                total = sum(comb(things, size - at) for at, things in enumerate(numbers))
                self.assertNotIn(total, found)
                found[total] = numbers
            self.assertEqual(sorted(found), list(range(1, comb(high, size))))
            for number, numbers in found.items():
                self.assertEqual(writing(number, size), numbers)

    def test_of_great_numbers(self):
        for number in GREAT_NUMBERS:
            for size in range(1, 13):
                told = writing(number, size)
                self.assertTrue(is_due(told, number, size), (number, size))
                self.assertIs(told.__class__, tuple)

    def test_no_number(self):
        for thing in NO_NUMBERS:
            for size in (1, 12, 0, 13, None):
                check_refused(self, "NoNumber", writing, thing, size)
        for thing in NO_SIZES:
            for number in (0, 1, 9, MOST, MOST + 1):
                check_refused(self, "NoNumber", writing, number, thing)


class IsWriting(unittest.TestCase):

    def test_the_writing(self):
        for size in range(1, 13):
            for number in tuple(range(200)) + GREAT_NUMBERS:
                self.assertIs(is_writing(writing(number, size), number, size), True)

    def test_nearly_the_writing(self):
        for size in range(1, 13):
            for number in tuple(range(1, 60)) + GREAT_NUMBERS:
                told = writing(number, size)
                wrong = [list(told), told + (0,), told + (1,), (), told + told[-1:], told[::-1] if len(told) > 1 else (0,)]
                for at in range(len(told)):
                    wrong += [told[:at] + (told[at] + more,) + told[at + 1:] for more in (1, -1)]
                    wrong += [told[:at] + told[at + 1:], told[:at] + (told[at] + 1,) + told[at:]]
                for thing in wrong:
                    if thing != told:
                        self.assertIs(is_writing(thing, number, size), False, (thing, number, size))
                self.assertIs(is_writing(told, number - 1, size), False)

    def test_one_more_of_the_same_sum(self):
        # Parts that come to nothing are less than how many are chosen of them.
        for thing in ((4, 1), (4, 1, 0), (4, 0), (3, 2, 1, 0)):
            self.assertIs(is_writing(thing, 4, 3), False)
        self.assertIs(is_writing((4,), 4, 3), True)
        self.assertIs(is_writing((0,), 0, 1), False)
        self.assertIs(is_writing((1,), 0, 2), False)
        self.assertIs(is_writing((4, 4), 10, 2), False)
        self.assertIs(is_writing((5,), 10, 2), True)

    def test_truths_are_no_numbers(self):
        self.assertIs(is_writing((1,), 1, 1), True)
        self.assertIs(is_writing((True,), 1, 1), False)
        self.assertIs(is_writing((3, 2, 1), 3, 3), True)
        self.assertIs(is_writing((3, 2, True), 3, 3), False)

    def test_anything_else(self):
        for number, size in ((0, 1), (0, 12), (1, 1), (3, 3), (9, 2), (MOST, 12), (7, 1)):
            for thing in NOTHINGS + (7, 0, 3, (-1,), (GREAT,), "3", "(7,)", [7], (7.0,), {7: 7}, ((7,),)):
                self.assertIs(is_writing(thing, number, size), False, (thing, number, size))
            for part in NO_PARTS:
                for thing in swapped_in(writing(number, size), part):
                    self.assertIs(is_writing(thing, number, size), False, (thing, number, size))
        self.assertIs(is_writing((), 0, 5), True)
        self.assertIs(is_writing([], 0, 5), False)

    def test_no_number(self):
        for thing in NO_NUMBERS:
            for told in ((), (1,), None, [thing], "x"):
                check_refused(self, "NoNumber", is_writing, told, thing, 1)
                check_refused(self, "NoNumber", is_writing, told, thing, 0)
        for thing in NO_SIZES:
            for told in ((), (1,), None, [thing], "x"):
                for number in (0, 1, MOST, -1):
                    check_refused(self, "NoNumber", is_writing, told, number, thing)


class Above(unittest.TestCase):

    def test_known_ones(self):
        for number, size, most, least, bags in (
            (0, 1, 0, 0, 0), (0, 12, 0, 0, 0), (1, 1, 0, 1, 1), (2, 1, 1, 1, 3), (5, 1, 10, 1, 15), (1, 2, 0, 2, 1),
            (3, 2, 1, 3, 4), (4, 2, 1, 4, 5), (10, 2, 10, 5, 20), (11, 2, 10, 6, 21), (4, 3, 1, 6, 5), (28, 3, 20, 20, 48),
        ):
            self.assertEqual((most_above(number, size), least_below(number, size)), (most, least), (number, size))
            self.assertEqual(bags_above(number, size), bags, (number, size))

    def test_by_the_writing(self):
        for size in range(1, 13):
            for number in tuple(range(300)) + GREAT_NUMBERS:
                parts = [(things, size - at) for at, things in enumerate(writing(number, size))]
                self.assertEqual(most_above(number, size), sum(comb(things, part + 1) for things, part in parts))
                self.assertEqual(least_below(number, size), sum(comb(things, part - 1) for things, part in parts))
                self.assertEqual(bags_above(number, size), sum(comb(things + 1, part + 1) for things, part in parts))
                for deed in (most_above, least_below, bags_above):
                    self.assertIs(deed(number, size).__class__, int)

    def test_of_nothing(self):
        for deed in (most_above, least_below, bags_above):
            for size in range(1, 13):
                self.assertEqual(deed(0, size), 0)

    def test_no_number(self):
        for deed in (most_above, least_below, bags_above):
            for thing in NO_NUMBERS:
                for size in (1, 12, 0, 13, None):
                    check_refused(self, "NoNumber", deed, thing, size)
            for thing in NO_SIZES:
                for number in (0, 1, 9, MOST, MOST + 1):
                    check_refused(self, "NoNumber", deed, number, thing)


def most_over(here, above):
    """Tell for each number the most of those above that stand over so many of those here, whichever these are."""
    place = {one: 1 << at for at, one in enumerate(here)}
    needs = [sum(place[part] for part in set(without_one(one))) for one in above]
    most = [0] * (len(here) + 1)
    for some in range(1 << len(here)):
        many = some.bit_count()
        most[many] = max(most[many], sum(some & need == need for need in needs))
    return most


def least_under(here):
    """Tell for each number the least that lie one size under so many of those here, whichever these are."""
    place = {one: 1 << at for at, one in enumerate(sorted({part for one in here for part in without_one(one)}))}
    least = [None] * (len(here) + 1)
    for some in range(1 << len(here)):
        under = 0
        for at, one in enumerate(here):
            if some >> at & 1:
                for part in without_one(one):
                    under |= place[part]
        many = some.bit_count()
        least[many] = under.bit_count() if least[many] is None else min(least[many], under.bit_count())
    return least


class GoneThrough(unittest.TestCase):

    def test_all_sets_of_faces(self):
        for points in range(1, 6):
            for size in range(1, points + 1):
                here = list(combinations(range(points), size))
                self.assertEqual(
                    [most_above(number, size) for number in range(len(here) + 1)],
                    most_over(here, list(combinations(range(points), size + 1))))
                self.assertEqual([least_below(number, size) for number in range(len(here) + 1)], least_under(here))

    def test_all_sets_of_bags(self):
        for numbers, size in ((1, 1), (1, 2), (1, 6), (2, 1), (2, 2), (2, 5), (2, 8), (3, 1), (3, 2), (3, 3), (4, 1),
                              (4, 2)):
            here = list(combinations_with_replacement(range(numbers), size))
            above = list(combinations_with_replacement(range(numbers), size + 1))
            self.assertEqual([bags_above(number, size) for number in range(len(here) + 1)], most_over(here, above))

    def test_the_first_ones_from_behind(self):
        for choice, deed, things in ((combinations, most_above, 11), (combinations_with_replacement, bags_above, 7)):
            for size in range(1, 6):
                here = sorted(choice(range(things), size), key=lambda one: one[::-1])
                place = {one: at for at, one in enumerate(here)}
                many = [0] * (len(here) + 1)
                for one in choice(range(things), size + 1):
                    many[max(place[part] for part in without_one(one)) + 1] += 1
                for number in range(1, len(here) + 1):
                    many[number] += many[number - 1]
                self.assertEqual([deed(number, size) for number in range(len(here) + 1)], many)

    def test_the_first_faces_have_the_least_below(self):
        for size in range(1, 6):
            here = sorted(combinations(range(11), size), key=lambda one: one[::-1])
            below = set()
            for number, one in enumerate(here):
                self.assertEqual(least_below(number, size), len(below))
                below.update(without_one(one))


class AtOnce(unittest.TestCase):

    def test_no_number_is_gone_through(self):
        for size in range(1, 13):
            for number in GREAT_NUMBERS:
                for deed in (choose, writing, most_above, least_below, bags_above):
                    self.assertGreater(rows_taken(deed, (number, size)), 0)
                rows_taken(is_writing, ((number,), number, size))
                rows_taken(is_writing, ((), number, size))


if __name__ == "__main__":
    unittest.main()
