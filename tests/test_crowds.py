"""[16], [17]: crowds and their counts, and which rows can be of a net or of a crowd."""

import unittest
from itertools import combinations, combinations_with_replacement, product

from facecounts.chosen import bags_above, most_above
from facecounts.crowds import crowd_counts, is_crowd, not_of_crowd, not_of_net
from facecounts.nets import counts
from tests.samples import (
    CLOSED_NETS, CROWDS, FULL_CROWD, GREAT, GREATER_NETS, NO_PARTS, NO_ROWS, NOTHINGS, SMALL_NETS, check_refused,
    crowd_of, model_counts_of_bags, model_is_crowd, swapped_in, without_one,
)

MOST = 10 ** 12
OTHERWISE = (16, 17, -1, -GREAT, GREAT, True, False, None, "", "1", (), (1,), [], [1], {}, 1.0)


def bags_changed(crowd, change):
    """Tell the crowd with one number of one bag otherwise: each number of it, or each ninth one where there are many."""
    found = []
    for at, bag in enumerate(crowd):
        for place, number in enumerate(bag):
            other = bag[:place] + (change(number),) + bag[place + 1:]
            found.append(crowd[:at] + (other,) + crowd[at + 1:])
    return found if len(found) < 200 else found[::9] + found[-1:]


class IsCrowd(unittest.TestCase):

    def check_of(self, thing):
        due = model_is_crowd(thing)
        self.assertIs(is_crowd(thing), due, thing)
        if due:
            self.assertEqual(crowd_counts(thing), model_counts_of_bags(thing))
        else:
            check_refused(self, "NoCrowd", crowd_counts, thing)
        return due

    def check_none(self, thing):
        self.assertIs(is_crowd(thing), False, thing)
        check_refused(self, "NoCrowd", crowd_counts, thing)

    def test_known_ones(self):
        for crowd, told in (
            (((),), (1,)), (((), (0,)), (1, 1)), (((), (15,)), (1, 1)), (((), (0,), (0, 0)), (1, 1, 1)),
            (((), (0,), (0, 1), (1,)), (1, 2, 1)), (((), (0,), (0, 0), (0, 1), (1,), (1, 1)), (1, 2, 3)),
            (((), (3,), (3, 3), (3, 3, 3), (9,)), (1, 2, 1, 1)), (tuple((7,) * size for size in range(7)), (1,) * 7),
        ):
            self.assertIs(is_crowd(crowd), True)
            self.assertEqual(crowd_counts(crowd), told)
            self.assertIs(crowd_counts(crowd).__class__, tuple)

    def test_crowds_of_one_to_two_hundred(self):
        self.assertEqual({len(crowd) for crowd in CROWDS}, set(range(1, 201)))
        for crowd in CROWDS:
            self.assertTrue(model_is_crowd(crowd))
            self.assertIs(is_crowd(crowd), True)
            self.assertEqual(crowd_counts(crowd), model_counts_of_bags(crowd))

    def test_a_bag_left_out(self):
        kept = 0
        for crowd in CROWDS[::17] + CROWDS[:20]:
            for at in range(len(crowd)):
                kept += self.check_of(crowd[:at] + crowd[at + 1:])
            self.check_none(crowd[1:])
        self.assertGreater(kept, 100)

    def test_a_bag_put_in(self):
        bags = [bag for size in range(4) for bag in combinations_with_replacement((0, 1, 2, 3, 15), size)]
        kept = 0
        for crowd in CROWDS[::19] + CROWDS[:20]:
            for bag in bags + [(0,) * 6, (15,) * 6, crowd[-1][:1] * 6]:
                if bag not in crowd:
                    kept += self.check_of(tuple(sorted(crowd + (bag,))))
        self.assertGreater(kept, 100)

    def test_bags_twice_exchanged_and_turned_about(self):
        for crowd in CROWDS[:12] + CROWDS[12::23]:
            for at in range(len(crowd)):
                self.check_none(crowd[:at] + crowd[at:at + 1] + crowd[at:])
            for at in range(len(crowd) - 1):
                self.check_none(crowd[:at] + (crowd[at + 1], crowd[at]) + crowd[at + 2:])
            if len(crowd) > 1:
                self.check_none(crowd[::-1])
                self.check_none(crowd[-1:] + crowd[1:-1] + crowd[:1])

    def test_bags_whose_numbers_are_turned_about(self):
        for crowd in CROWDS[::29] + CROWDS[:20]:
            for at, bag in enumerate(crowd):
                if bag != bag[::-1]:
                    self.check_none(crowd[:at] + (bag[::-1],) + crowd[at + 1:])
                    self.check_none(tuple(sorted(crowd + (bag[::-1],))))
        self.check_none(((), (0,), (1,), (1, 0)))

    def test_a_number_one_more_or_less(self):
        for crowd in CROWDS[::33] + CROWDS[:20]:
            for more in (1, -1, 2):
                for thing in bags_changed(crowd, lambda number: number + more):
                    self.check_of(thing)
                    self.check_of(tuple(sorted(set(thing))))

    def test_a_number_otherwise_at_any_place(self):
        for crowd in CROWDS[99::50] + CROWDS[:20]:
            for part in OTHERWISE:
                for thing in bags_changed(crowd, lambda number: part):
                    self.check_none(thing)

    def test_truths_are_no_numbers(self):
        for crowd in (((), (0,), (0, 1), (1,)), ((), (1,), (1, 1)), ((), (0,), (0, 0))):
            self.assertIs(is_crowd(crowd), True)
            for thing in bags_changed(crowd, bool):
                self.check_none(thing)

    def test_bags_otherwise(self):
        for crowd in CROWDS[:12] + (CROWDS[70], FULL_CROWD):
            for part in (0, 1, True, None, "", "0", [], [0], {}, ((),), ((0,),), b""):
                for thing in swapped_in(crowd, part):
                    self.check_none(thing)
            for at, bag in enumerate(crowd):
                self.check_none(crowd[:at] + (list(bag),) + crowd[at + 1:])

    def test_lists(self):
        for crowd in CROWDS[::11]:
            self.check_none(list(crowd))
            self.check_none([list(bag) for bag in crowd])
            self.check_none(dict.fromkeys(crowd))

    def test_two_hundred_and_one(self):
        self.assertEqual(len(FULL_CROWD), 200)
        self.assertIs(is_crowd(FULL_CROWD), True)
        more = sorted(
            bag for size in range(7) for bag in combinations_with_replacement(range(16), size)
            if bag not in FULL_CROWD and all(part in FULL_CROWD for part in without_one(bag)))
        self.assertTrue(more)
        for bag in more:
            greater = tuple(sorted(FULL_CROWD + (bag,)))
            self.assertEqual(len(greater), 201)
            self.check_none(greater)

    def test_seven_numbers(self):
        for number in (0, 3, 15):
            six = tuple((number,) * size for size in range(7))
            self.assertIs(is_crowd(six), True)
            self.check_none(six + ((number,) * 7,))
        greater = crowd_of([(0, 0, 0, 0, 1, 1, 1)])
        self.check_none(greater)
        self.assertIs(is_crowd(tuple(bag for bag in greater if len(bag) < 7)), True)

    def test_numbers_from_0_to_15(self):
        self.assertIs(is_crowd(((),) + tuple((number,) for number in range(16))), True)
        self.check_none(((),) + tuple((number,) for number in range(17)))
        self.check_none(((), (-1,)))
        self.check_none(((), (16,)))

    def test_anything_else(self):
        for thing in NOTHINGS + ((), (0,), (1, 1), ((0,),), ((), (0, 0)), ((), (1,), (0, 1)), 7, "()", ((), ()), 0):
            self.check_none(thing)

    def test_all_sets_of_few_bags(self):
        bags = sorted(bag for size in range(4) for bag in combinations_with_replacement((0, 1), size))
        self.assertEqual(len(bags), 10)
        found = sum(self.check_of(some) for many in range(len(bags) + 1) for some in combinations(bags, many))
        # Each is a stair that falls and stays within that of 4, 3, 2 and 1: there are 42, and () alone is no crowd.
        self.assertEqual(found, 41)


def greatest_rows(above, size):
    """Tell rows of so many numbers, each of which is the greatest that can be."""
    found = []
    for first in (0, 1, 2, 3, 5, 8, 15, 40, 1000, 10 ** 6, MOST):
        row = [1, first]
        while len(row) < size:
            row.append(min(above(row[-1], len(row) - 1), MOST))
        found.append(tuple(row[:size]))
    return found


def can_be_of_net(most):
    """Tell all counts of nets of at most so many points, with noughts behind."""
    rows = set()
    for net in SMALL_NETS:
        row = counts(net)
        rows.update(row + (0,) * more for more in range(most + 2 - len(row)))
    return rows


def can_be_of_crowd():
    """Tell all counts of crowds of bags of at most three numbers out of three, each gone through, with noughts behind."""
    rows = {(1,)}
    for first in range(4):
        pairs = list(combinations_with_replacement(range(first), 2))
        triples = list(combinations_with_replacement(range(first), 3))
        for many in range(len(pairs) + 1):
            for some in combinations(pairs, many):
                most = sum(all(part in some for part in without_one(bag)) for bag in triples)
                rows.update((1, first, many, more) for more in range(most + 1))
                rows.update(((1, first), (1, first, many)))
    return rows


CASES = ((not_of_net, most_above), (not_of_crowd, bags_above))


class CanBe(unittest.TestCase):

    def test_known_ones_of_nets(self):
        for row, place in (
            ((1,), None), ((0,), 0), ((2,), 0), ((-1,), 0), ((1, 0), None), ((1, 5), None), ((1, -1), 1), ((1, MOST), None),
            ((1, MOST + 1), 1), ((1, 3, 3), None), ((1, 3, 4), 2), ((1, 3, 3, 1), None), ((1, 3, 3, 2), 3),
            ((1, 3, 2, 1), 3), ((1, 0, 1), 2), ((1, 1, 1), 2), ((1, 4, 6, 4, 1), None), ((1, 4, 6, 4, 2), 4),
            ((1, 6, 15, 20, 15, 6, 1), None), ((1, 5, 0, 0, 1), 4), ((1, 5, 0, 1, 1), 3), ((2, 3, 9), 0), ((1, -1, 9), 1),
            ((1,) + (0,) * 11, None), ((1,) + (0,) * 10 + (1,), 11), ((1, 12, 66, 220, 495, 792, 924, 792, 495, 220, 66, 12),
                                                                    None),
            ((1, 12, 66, 220, 495, 792, 924, 792, 495, 220, 66, 13), 11),
        ):
            self.assertEqual(not_of_net(row), place, row)

    def test_known_ones_of_crowds(self):
        for row, place in (
            ((1,), None), ((0,), 0), ((3,), 0), ((1, 0), None), ((1, MOST), None), ((1, MOST + 1), 1), ((1, -1), 1),
            ((1, 1, 1, 1, 1, 1, 1, 1, 1, 1, 1, 1), None), ((1, 1, 2), 2), ((1, 2, 3, 4, 5), None), ((1, 2, 3, 5), 3),
            ((1, 2, 2, 3), 3), ((1, 2, 2, 2), None), ((1, 3, 6, 10), None), ((1, 3, 7), 2), ((1, 3, 6, 11), 3), ((1, 0, 1), 2),
            ((1, 4, 0, 0), None), ((1, 4, 0, 1), 3), ((1, 3, 4, 5), None), ((1, 3, 4, 6), 3), ((0, -1), 0),
        ):
            self.assertEqual(not_of_crowd(row), place, row)

    def test_all_rows_of_few_points(self):
        can = can_be_of_net(4)
        some = [(1,) + row for size in range(5) for row in product(*(range(5), range(8), range(6), range(3))[:size])]
        for row in some:
            self.assertIs(not_of_net(row) is None, row in can, row)
        self.assertTrue(can <= set(some))

    def test_all_rows_of_few_bags(self):
        can = can_be_of_crowd()
        some = [(1,) + row for size in range(4) for row in product(*(range(4), range(9), range(13))[:size])]
        for row in some:
            self.assertIs(not_of_crowd(row) is None, row in can, row)
        self.assertTrue(can <= set(some))

    def test_each_number_the_greatest(self):
        for deed, above in CASES:
            for size in range(1, 13):
                for row in greatest_rows(above, size):
                    self.assertIs(deed(row), None, row)
                    self.assertIs(deed(row[:-1] + (0,)) if size > 1 else None, None)

    def test_a_number_one_more(self):
        for deed, above in CASES:
            for row in greatest_rows(above, 12):
                for at, number in enumerate(row):
                    other = row[:at] + (number + 1,) + row[at + 1:]
                    if at != 1 or number == MOST:
                        self.assertEqual(deed(other), at, other)
                    self.assertEqual(deed(other[:at + 1]), deed(other) if at != 1 or number == MOST else None)

    def test_below_0_and_above_the_most(self):
        for deed, above in CASES:
            for row in greatest_rows(above, 12):
                for at in range(12):
                    for number in (-1, -GREAT, MOST + 1, GREAT):
                        self.assertEqual(deed(row[:at] + (number,) + row[at + 1:]), at)

    def test_of_several_the_first_place(self):
        for deed, above in CASES:
            for row in greatest_rows(above, 12):
                for at in range(2, 12):
                    for behind in range(at + 1, 12):
                        other = list(row)
                        other[at] += 1
                        other[behind] = -1
                        self.assertEqual(deed(tuple(other)), at)
                        other[0] = 0
                        self.assertEqual(deed(tuple(other)), 0)

    def test_the_first_number(self):
        for deed, _ in CASES:
            for number in (0, 2, -1, MOST, GREAT, -GREAT, MOST + 1):
                for row in ((), (3,), (3, 1), (-1,), (0,) * 11):
                    self.assertEqual(deed((number,) + row), 0)

    def test_noughts_behind_and_a_number_behind_a_nought(self):
        for deed, above in CASES:
            for row in ((1,), (1, 0), (1, 3), (1, 3, 2), (1, 7, 9, 3)):
                for more in range(1, 13 - len(row)):
                    self.assertIs(deed(row + (0,) * more), None)
                    if len(row) + more < 12:
                        for number in (1, 7, MOST):
                            self.assertEqual(deed(row + (0,) * more + (number,)),
                                             None if row + (0,) * more == (1,) else len(row) + more)

    def test_a_nought_ahead_of_the_last(self):
        self.assertEqual(not_of_net((1, 0, 5)), 2)
        self.assertEqual(not_of_crowd((1, 0, 5)), 2)

    def test_counts_of_nets_and_crowds_can_be(self):
        for net in SMALL_NETS + list(GREATER_NETS + CLOSED_NETS):
            self.assertIs(not_of_net(counts(net)), None)
        for crowd in CROWDS:
            self.assertIs(not_of_crowd(crowd_counts(crowd)), None)

    def test_what_is_told_is_a_place(self):
        for deed, _ in CASES:
            self.assertIs(deed((1, 1, 9)).__class__, int)
            self.assertIs(deed((5,)).__class__, int)

    def test_no_row(self):
        for deed, _ in CASES:
            for thing in NO_ROWS + ([], [1, 3], (1,) * 13, (0,) * 13, (True,), (1, True)):
                check_refused(self, "NoRow", deed, thing)
            for row in ((1, 3, 3, 1), (0, 5), (1, MOST + 1, 1)):
                check_refused(self, "NoRow", deed, list(row))
                for part in NO_PARTS:
                    for thing in swapped_in(row, part):
                        check_refused(self, "NoRow", deed, thing)


if __name__ == "__main__":
    unittest.main()
