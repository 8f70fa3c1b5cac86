"""[18]: the first net and the first crowd of a row."""

import unittest
from itertools import combinations_with_replacement, product
from math import comb

from facecounts.chosen import bags_above, most_above
from facecounts.crowds import crowd_counts, is_crowd, not_of_crowd, not_of_net
from facecounts.firsts import first_crowd, first_net
from facecounts.nets import counts, is_net
from tests.samples import (
    NO_PARTS, NO_ROWS, POINTLESS, check_refused, from_behind, model_counts_of_bags, model_first_net, model_is_crowd,
    rows_taken, swapped_in,
)

MOST = 10 ** 12


def model_first_crowd(row):
    """Tell the first crowd, by all bags in order from behind gone through."""
    numbers = row[1] if len(row) > 1 else 0
    return tuple(sorted(
        bag for size, many in enumerate(row)
        for bag in from_behind(combinations_with_replacement, numbers, size)[:many]))


def rows_below(above, firsts, size):
    """Tell all rows of so many numbers that can be, with these second numbers."""
    found = [(1, first) for first in firsts]
    while len(found[0]) < size:
        found = [row + (more,) for row in found for more in range(above(row[-1], len(row) - 1) + 1)]
    return found


def stripped(row):
    """Tell the row without the noughts behind."""
    while row[-1] == 0:
        row = row[:-1]
    return row


class FirstNet(unittest.TestCase):

    def check_of(self, row):
        told = first_net(row)
        self.assertEqual(told, model_first_net(row), row)
        self.assertIs(is_net(told), True)
        self.assertEqual(counts(told), stripped(row))

    def test_known_ones(self):
        for row, net in (
            ((1,), POINTLESS), ((1, 0), POINTLESS), ((1,) + (0,) * 11, POINTLESS), ((1, 1), ((0,),)), ((1, 2), ((0,), (1,))),
            ((1, 3, 0, 0), ((0,), (1,), (2,))), ((1, 3, 1), ((0, 1), (2,))), ((1, 3, 2), ((0, 1), (0, 2))),
            ((1, 3, 3), ((0, 1), (0, 2), (1, 2))), ((1, 3, 3, 1), ((0, 1, 2),)), ((1, 4, 4), ((0, 1), (0, 2), (0, 3), (1, 2))),
            ((1, 4, 4, 1), ((0, 1, 2), (0, 3))), ((1, 5, 3, 1), ((0, 1, 2), (3,), (4,))),
            ((1, 6, 15, 20, 15, 6, 1), ((0, 1, 2, 3, 4, 5),)), ((1, 4, 5, 2), ((0, 1, 2), (0, 1, 3))),
        ):
            self.assertEqual(first_net(row), net, row)

    def test_all_small_rows(self):
        for size in range(2, 7):
            for row in rows_below(most_above, range(6), size):
                self.check_of(row)

    def test_rows_of_six_and_seven_points(self):
        for row in rows_below(most_above, (6, 7), 4)[::3]:
            self.check_of(row)

    def test_rows_of_greater_sizes(self):
        for points in range(4, 8):
            row = tuple(comb(points, size) for size in range(7))
            self.check_of(row)
            for less in range(min(row[6], 4) + 1):
                self.check_of(row[:6] + (row[6] - less,))
            self.check_of(row[:5])
        self.check_of((1, 8, 28, 56, 70, 56, 28))
        self.check_of((1, 8, 28, 50, 45, 21, 4))
        self.check_of((1, 9, 30, 52, 46, 21, 4, 0, 0, 0, 0, 0))

    def test_noughts_behind(self):
        for row in ((1,), (1, 4), (1, 4, 4, 1), (1, 6, 15, 20, 15, 6, 1), (1, 7, 3)):
            for more in range(13 - len(row)):
                self.assertEqual(first_net(row + (0,) * more), first_net(row))

    def test_no_row_first(self):
        for thing in NO_ROWS:
            check_refused(self, "NoRow", first_net, thing)
        for row in ((1, 4, 4, 1), (1, 17), (2, 1), (1, 4, 9)):
            check_refused(self, "NoRow", first_net, list(row))
            for part in NO_PARTS:
                for thing in swapped_in(row, part):
                    check_refused(self, "NoRow", first_net, thing)

    def test_no_way(self):
        for row in product(range(-1, 3), range(-1, 4), range(-1, 5), range(-1, 3)):
            if not_of_net(row) is not None:
                check_refused(self, "NoWay", first_net, row)
        for row in ((0,), (2,), (-1,), (1, MOST + 1), (1, 3, 4), (1, 0, 1), (1, 5, 10, 11)):
            check_refused(self, "NoWay", first_net, row)

    def test_no_way_ahead_of_too_many(self):
        for row in ((1, 17, 137), (2, 17), (1, MOST, MOST, -1), (1, 7, 21, 35, 35, 21, 7, 2), (1, 7, 21, 35, 35, 21, 7, 1, 1),
                    (1, 12, 67), (1, 20, 0, 1), (1, MOST + 1)):
            check_refused(self, "NoWay", first_net, row)

    def test_a_point_above_15(self):
        self.assertEqual(first_net((1, 16)), tuple((point,) for point in range(16)))
        self.check_of((1, 16, 0, 0))
        self.check_of((1, 16, 3, 1))
        for row in ((1, 17), (1, 17, 0), (1, 17, 1), (1, 17, 3, 1), (1, 18), (1, 60), (1, 61), (1, 17, 136), (1, MOST)):
            check_refused(self, "TooMany", first_net, row)

    def test_a_face_of_more_than_six(self):
        seven = tuple(comb(7, size) for size in range(8))
        check_refused(self, "TooMany", first_net, seven)
        check_refused(self, "TooMany", first_net, seven + (0, 0))
        check_refused(self, "TooMany", first_net, tuple(comb(11, size) for size in range(12)))
        self.check_of(seven[:7])
        self.check_of(seven[:7] + (0,))

    def test_sixty_sides_and_more(self):
        for row in ((1, 12, 60), (1, 16, 55, 0), (1, 12, 63, 3), (1, 8, 28, 56)):
            self.assertLessEqual(len(model_first_net(row)), 60)
            self.check_of(row)
        for row in ((1, 12, 61), (1, 16, 61), (1, 12, 61, 0), (1, 12, 62), (1, 12, 66), (1, 16, 120), (1, 9, 36, 84)):
            self.assertGreater(len(model_first_net(row)), 60)
            check_refused(self, "TooMany", first_net, row)

    def test_just_sixty_and_just_sixty_one(self):
        # Faces of several sizes that lie in no greater one are counted together.
        just = {60: 0, 61: 0}
        for points in range(9, 17):
            for pairs in range(points * (points - 1) // 2 + 1):
                for triples in (0, 1, 4, 10, 20):
                    row = (1, points, pairs, triples)
                    many = len(model_first_net(row)) if not_of_net(row) is None and 50 < pairs - triples < 75 else 0
                    if many == 60:
                        self.assertEqual(first_net(row), model_first_net(row))
                    elif many == 61:
                        check_refused(self, "TooMany", first_net, row)
                    if many in just:
                        just[many] += 1
        self.assertGreater(min(just.values()), 3)

    def test_all_of_sixteen_points(self):
        for size in range(2, 7):
            check_refused(self, "TooMany", first_net, tuple(comb(16, part) for part in range(size + 1)))


class FirstCrowd(unittest.TestCase):

    def check_of(self, row):
        told = first_crowd(row)
        self.assertEqual(told, model_first_crowd(row), row)
        self.assertTrue(model_is_crowd(told), row)
        self.assertIs(is_crowd(told), True)
        self.assertEqual(crowd_counts(told), stripped(row))

    def test_known_ones(self):
        for row, crowd in (
            ((1,), ((),)), ((1, 0), ((),)), ((1,) + (0,) * 11, ((),)), ((1, 1), ((), (0,))), ((1, 2), ((), (0,), (1,))),
            ((1, 1, 1), ((), (0,), (0, 0))), ((1, 2, 1), ((), (0,), (0, 0), (1,))),
            ((1, 2, 2), ((), (0,), (0, 0), (0, 1), (1,))), ((1, 2, 3), ((), (0,), (0, 0), (0, 1), (1,), (1, 1))),
            ((1, 3, 4), ((), (0,), (0, 0), (0, 1), (0, 2), (1,), (1, 1), (2,))),
            ((1, 1, 1, 1, 1, 1, 1), tuple((0,) * size for size in range(7))),
        ):
            self.assertEqual(first_crowd(row), crowd, row)

    def test_all_small_rows(self):
        for size in range(2, 7):
            for row in rows_below(bags_above, range(5 if size < 4 else 4 if size < 5 else 3), size):
                self.check_of(row)

    def test_greater_rows(self):
        for row in rows_below(bags_above, (4, 5), 4)[::5]:
            self.check_of(row)
        for row in ((1, 16), (1, 16, 136), (1, 16, 0), (1, 3, 6, 10, 15, 21, 28), (1, 4, 10, 20, 35, 56), (1, 2, 3, 4, 5, 6, 7),
                    (1, 2, 3, 4, 5, 6, 7, 0, 0, 0, 0, 0), (1, 8, 36, 120), (1, 14, 105, 40)):
            self.check_of(row)

    def test_noughts_behind(self):
        for row in ((1,), (1, 4), (1, 4, 4, 1), (1, 1, 1, 1, 1, 1, 1), (1, 7, 3)):
            for more in range(13 - len(row)):
                self.assertEqual(first_crowd(row + (0,) * more), first_crowd(row))

    def test_no_row_first(self):
        for thing in NO_ROWS:
            check_refused(self, "NoRow", first_crowd, thing)
        for row in ((1, 4, 4, 1), (1, 17), (2, 1), (1, 1, 2)):
            check_refused(self, "NoRow", first_crowd, list(row))
            for part in NO_PARTS:
                for thing in swapped_in(row, part):
                    check_refused(self, "NoRow", first_crowd, thing)

    def test_no_way(self):
        for row in product(range(-1, 3), range(-1, 3), range(-1, 5), range(-1, 6)):
            if not_of_crowd(row) is not None:
                check_refused(self, "NoWay", first_crowd, row)
        for row in ((0,), (2,), (-1,), (1, MOST + 1), (1, 1, 2), (1, 0, 1), (1, 2, 2, 3)):
            check_refused(self, "NoWay", first_crowd, row)

    def test_no_way_ahead_of_too_many(self):
        for row in ((1, 17, 154), (2, 17), (1, MOST, MOST, -1), (1,) * 8 + (2,), (1, 20, 0, 1), (1, 16, 137), (1, MOST + 1)):
            check_refused(self, "NoWay", first_crowd, row)

    def test_a_number_above_15(self):
        self.check_of((1, 16))
        for row in ((1, 17), (1, 17, 0), (1, 17, 1), (1, 17, 3, 1), (1, 18), (1, 199), (1, 200), (1, 17, 153), (1, MOST)):
            check_refused(self, "TooMany", first_crowd, row)

    def test_a_bag_of_more_than_six(self):
        self.check_of((1,) * 7)
        self.check_of((1,) * 7 + (0,))
        for size in range(8, 13):
            check_refused(self, "TooMany", first_crowd, (1,) * size)
        check_refused(self, "TooMany", first_crowd, (1, 2, 2, 2, 2, 2, 2, 1, 0))

    def test_two_hundred_bags_and_more(self):
        for row in ((1, 16, 136, 47), (1, 10, 55, 134), (1, 4, 10, 20, 35, 56, 74), (1, 3, 6, 10, 15, 21, 28)):
            self.assertLessEqual(sum(row), 200)
            self.check_of(row)
        for row in ((1, 16, 136, 48), (1, 10, 55, 135), (1, 4, 10, 20, 35, 56, 75), (1, 16, 136, 816), (1, 4, 10, 20, 35, 56, 84)):
            self.assertGreater(sum(row), 200)
            check_refused(self, "TooMany", first_crowd, row)
        self.assertEqual(len(first_crowd((1, 16, 136, 47))), 200)
        self.assertEqual(model_counts_of_bags(first_crowd((1, 10, 55, 134))), (1, 10, 55, 134))


class AtOnce(unittest.TestCase):

    def test_rows_of_great_numbers(self):
        rows = [(1, MOST), (1, MOST, 1), (1, MOST, MOST), (1,) + (MOST,) * 11, (1, 10 ** 6, 499999500000), (1, 10 ** 9, 7, 3)]
        rows += [(1,) + (MOST,) * size for size in range(1, 12)]
        rows += [tuple(comb(16, size) for size in range(7)), tuple(comb(16, size) for size in range(12))]
        for row in rows:
            for deed in (first_net, first_crowd):
                check_refused(self, "TooMany", deed, row)
                rows_taken(refusal_of, (deed, row), 200000)
        for row in ((1, MOST, MOST, MOST + 1), (1, 16, MOST), (2, MOST), (1, MOST, -1)):
            for deed in (first_net, first_crowd):
                check_refused(self, "NoWay", deed, row)
                rows_taken(refusal_of, (deed, row), 200000)

    def test_places_are_answered_at_once(self):
        for size in range(1, 13):
            for deed in (not_of_net, not_of_crowd):
                rows_taken(deed, ((1,) + (MOST,) * (size - 1),), 200000)

    def test_what_is_refused_is_not_made(self):
        for row in (tuple(comb(16, size) for size in range(7)), (1, 16, 120, 560, 1820, 4368, 1)):
            rows_taken(refusal_of, (first_net, row), 20000)
        for row in ((1, 16, 136, 816, 3876, 15504, 54264), (1, 16, 136, 816, 3876, 15504, 1)):
            rows_taken(refusal_of, (first_crowd, row), 20000)


def refusal_of(deed, row):
    """Tell the refusal of a deed that is to be refused."""
    try:
        deed(row)
    except ValueError as refusal:
        return refusal
    raise AssertionError(row)


if __name__ == "__main__":
    unittest.main()
