"""[19], [20], [21]: rows that can be closed, and nets made of steps."""

import unittest
from itertools import combinations_with_replacement, product
from math import comb

from facecounts.chosen import bags_above
from facecounts.closed import border, is_closed
from facecounts.crowds import not_of_crowd
from facecounts.firsts import first_crowd
from facecounts.made import all_rows, barred, filling, greatest_row, least_row, made
from facecounts.nets import counts, is_net
from facecounts.rows import by_steps, first_uneven, is_even, steps
from tests.samples import (
    BORDERS, CIRCLES, CLOSED_NETS, GREAT, JOINED_BORDERS, JOINED_CIRCLES, NO_PARTS, NO_ROWS, NO_WHOLES, NOTHINGS, border_of,
    check_refused, circle, rows_taken, swapped_in,
)

MOST = 10 ** 12


def model_row(width, numbers):
    """Tell the even row whose steps are these: what each of them brings, put together."""
    there = [0] * (width + 1)
    for at, number in enumerate(numbers):
        for place in range(at, width + 1 - at):
            there[place] += number
    return tuple(
        sum(comb(width - at, place - at) * there[at] for at in range(place + 1)) for place in range(width + 1))


def model_place(numbers):
    """Tell the first place at which steps can't be of a crowd, where they are few: by bags gone through."""
    if numbers[0] != 1:
        return 0
    for place in range(1, len(numbers)):
        if numbers[place] < 0 or (place > 1 and numbers[place] > most_bags(numbers[place - 1], place)):
            return place
    return None


def most_bags(many, size):
    """Tell how many bags of a size stand over the first so many, from behind, that are a size less."""
    below = sorted(combinations_with_replacement(range(many + 1), size - 1), key=lambda bag: bag[::-1])[:many]
    found = set(below)
    return sum(all(bag[:at] + bag[at + 1:] in found for at in range(size))
               for bag in combinations_with_replacement(range(many + 1), size))


class Barred(unittest.TestCase):

    def test_known_ones(self):
        for row, told in (
            ((1,), None), ((2,), ("steps", 0)), ((0,), ("steps", 0)), ((1, 2), None), ((1, 3), ("uneven", 0)),
            ((2, 4), ("steps", 0)), ((1, 3, 3), None), ((1, 2, 2), ("steps", 1)), ((1, 3, 2), ("uneven", 0)),
            ((1, 6, 12, 8), None), ((1, 6, 11, 7), ("uneven", 1)), ((1, 4, 6, 4), None), ((1, 3, 3, 2), ("steps", 1)),
            ((1, 8, 24, 32, 16), None), ((1, 8, 29, 42, 21), ("steps", 2)), ((1, 5, 11, 12, 6), ("steps", 2)),
            ((1, 6, 12, 12, 6), ("steps", 2)), ((-1, -2), ("steps", 0)),
        ):
            self.assertEqual(barred(row), told, row)

    def test_even_rows_of_each_width(self):
        for width in range(12):
            for numbers in product(*((1, 0, 2), (-1, 0, 1, 2, 3), (0, 1, 2, 3, 4, 7), (0, 2, 11), (0, 5), (0, 7))[:width // 2 + 1]):
                place = model_place(numbers)
                due = None if place is None else ("steps", place)
                self.assertEqual(barred(model_row(width, numbers)), due, (width, numbers))

    def test_each_step_the_greatest(self):
        for width in range(4, 12):
            for first in (1, 2, 3, 9, 1000, 10 ** 6, MOST):
                numbers = [1, first]
                while len(numbers) <= width // 2:
                    numbers.append(min(bags_above(numbers[-1], len(numbers) - 1), MOST))
                self.assertIs(barred(model_row(width, numbers)), None, numbers)
                for at in range(len(numbers)):
                    more = numbers[:at] + [numbers[at] + 1] + numbers[at + 1:]
                    if at != 1 or first == MOST:
                        self.assertEqual(barred(model_row(width, more)), ("steps", at), more)
                    more[at] = -1
                    self.assertEqual(barred(model_row(width, more)), ("steps", at), more)

    def test_rows_that_are_not_even(self):
        seen = set()
        for width in range(1, 12):
            row = model_row(width, (1, 3, 2, 0, 0, 0)[:width // 2 + 1])
            for at in range(len(row)):
                for more in (1, -1, 5):
                    near = row[:at] + (row[at] + more,) + row[at + 1:]
                    if not is_even(near):
                        self.assertEqual(barred(near), ("uneven", first_uneven(near)))
            for at in range((width + 1) // 2):
                there = [0] * (width + 1)
                there[at] = 1
                near = tuple(
                    number + sum(comb(width - part, place - part) * there[part] for part in range(place + 1))
                    for place, number in enumerate(row))
                self.assertEqual(barred(near), ("uneven", at))
                seen.add(at)
        self.assertEqual(seen, set(range(6)))

    def test_uneven_ahead_of_steps(self):
        for row in ((2, 3), (-1, 5), (0, 1), (2, 2, 3), (1, -5, 3)):
            self.assertEqual(barred(row)[0], "uneven")

    def test_counts_of_joined_and_other_closed_nets(self):
        for net in CLOSED_NETS:
            row = counts(net)
            place = not_of_crowd(steps(row))
            self.assertEqual(barred(row), None if place is None else ("steps", place))
        for net in BORDERS + CIRCLES + JOINED_BORDERS + JOINED_CIRCLES:
            self.assertIs(barred(counts(net)), None)

    def test_kinds(self):
        for row in ((1, 3, 2), (1, 2, 2)):
            self.assertIs(barred(row).__class__, tuple)
            self.assertEqual([part.__class__ for part in barred(row)], [str, int])

    def test_no_row(self):
        for thing in NO_ROWS + ([1, 2], [1], ["uneven", 0], ("uneven", 0)):
            check_refused(self, "NoRow", barred, thing)


def model_rows(width, points):
    """Tell all rows of this width and so many points, all steps gone through."""
    most = (1, 3, 6, 10)
    found = []
    for numbers in product(*(range(number + 3) for number in most[:width // 2 + 1])):
        row = model_row(width, numbers)
        if model_place(numbers) is None and row[1] == points:
            found.append(row)
    return sorted(found)


class Rows(unittest.TestCase):

    def test_known_ones(self):
        for width, points, least, greatest in (
            (2, 3, (1, 3, 3), (1, 3, 3)), (2, 6, (1, 6, 6), (1, 6, 6)), (3, 4, (1, 4, 6, 4), (1, 4, 6, 4)),
            (3, 6, (1, 6, 12, 8), (1, 6, 12, 8)), (4, 5, (1, 5, 10, 10, 5), (1, 5, 10, 10, 5)),
            (4, 6, (1, 6, 14, 16, 8), (1, 6, 15, 18, 9)), (4, 8, (1, 8, 22, 28, 14), (1, 8, 28, 40, 20)),
        ):
            self.assertEqual(least_row(width, points), least)
            self.assertEqual(greatest_row(width, points), greatest)
        self.assertEqual(all_rows(4, 6), [(1, 6, 14, 16, 8), (1, 6, 15, 18, 9)])
        self.assertEqual(all_rows(2, 5), [(1, 5, 5)])

    def test_all_steps_gone_through(self):
        for width in range(2, 8):
            for points in range(width + 1, width + 5):
                due = model_rows(width, points)
                told = all_rows(width, points)
                self.assertEqual(told, due, (width, points))
                self.assertIs(told.__class__, list)
                self.assertTrue(all(one < other for one, other in zip(told, told[1:])))
                halves = [steps(row) for row in due]
                least = tuple(min(column) for column in zip(*halves))
                greatest = tuple(max(column) for column in zip(*halves))
                self.assertEqual(least_row(width, points), model_row(width, least))
                self.assertEqual(greatest_row(width, points), model_row(width, greatest))
                self.assertIn(least_row(width, points), told)
                self.assertIn(greatest_row(width, points), told)

    def test_each_can_be_closed(self):
        for width in range(2, 8):
            for points in range(width + 1, width + 5):
                for row in all_rows(width, points):
                    self.assertEqual((len(row), row[1]), (width + 1, points))
                    self.assertIs(barred(row), None)

    def test_the_list_is_the_askers_own(self):
        for width in range(2, 8):
            told = all_rows(width, width + 4)
            kept = all_rows(width, width + 4)
            due = list(told)
            told.append(None)
            told[0] = ()
            self.assertEqual(kept, due)
            self.assertEqual(all_rows(width, width + 4), due)

    def test_no_number(self):
        for deed in (least_row, greatest_row, all_rows):
            for width in NO_WHOLES + NOTHINGS + (1, 8, 0, -2, 9, GREAT, -GREAT, (2,), [3]):
                for points in (2, 3, 5, 9, 12, 0, None, True, "3"):
                    check_refused(self, "NoNumber", deed, width, points)
            for width in range(2, 8):
                for points in NO_WHOLES + NOTHINGS + (width, width + 5, 0, -1, GREAT, -GREAT, width - 1, width + 6):
                    check_refused(self, "NoNumber", deed, width, points)


def model_side(width, bag):
    """Tell the side of a bag: the pairs ahead stay, those behind are moved."""
    lone = [0] if width % 2 == 0 else []
    first = len(lone)
    pairs = [[first + 2 * at, first + 2 * at + 1] for at in range((width + 1 - first) // 2)]
    stays = len(pairs) - len(bag)
    for pair, number in zip(pairs[stays:], bag):
        pair[0] += number + 1
        pair[1] += number + 1
    return tuple(lone + sum(pairs, []))


def model_filling(width, numbers):
    return sorted(model_side(width, bag) for bag in first_crowd(numbers))


def model_border(sides):
    """Tell all faces one size below the sides that lie in just one of them."""
    parts = [side[:at] + side[at + 1:] for side in sides for at in range(len(side))]
    return sorted(part for part in parts if parts.count(part) == 1)


def all_steps(width):
    """Tell all steps of this width whose counts are no greater than a net of 17 points has, somewhat beyond it."""
    found = [(1,)]
    if width > 1:
        found = [(1, more) for more in range(18 - width)]
    if width > 3:
        found = [some + (more,) for some in found for more in range(bags_above(some[1], 1) + 1)]
    return found


class Made(unittest.TestCase):

    def test_known_ones(self):
        for width, numbers, full, hollow in (
            (1, (1,), ((0, 1),), ((0,), (1,))),
            (2, (1, 0), ((0, 1, 2),), ((0, 1), (0, 2), (1, 2))),
            (2, (1, 1), ((0, 1, 2), (0, 2, 3)), ((0, 1), (0, 3), (1, 2), (2, 3))),
            (2, (1, 2), ((0, 1, 2), (0, 2, 3), (0, 3, 4)), circle(0, 1, 2, 3, 4)),
            (3, (1, 0), ((0, 1, 2, 3),), border_of((0, 1, 2, 3))),
            (3, (1, 1), ((0, 1, 2, 3), (0, 1, 3, 4)),
             ((0, 1, 2), (0, 1, 4), (0, 2, 3), (0, 3, 4), (1, 2, 3), (1, 3, 4))),
            (4, (1, 1, 0), ((0, 1, 2, 3, 4), (0, 1, 2, 4, 5)), None),
            (4, (1, 1, 1), ((0, 1, 2, 3, 4), (0, 1, 2, 4, 5), (0, 2, 3, 4, 5)), None),
            (4, (1, 2, 2), ((0, 1, 2, 3, 4), (0, 1, 2, 4, 5), (0, 1, 2, 5, 6), (0, 2, 3, 4, 5), (0, 2, 3, 5, 6)), None),
            (5, (1, 1, 1), ((0, 1, 2, 3, 4, 5), (0, 1, 2, 3, 5, 6), (0, 1, 3, 4, 5, 6)), None),
            (5, (1, 0, 0), ((0, 1, 2, 3, 4, 5),), border_of((0, 1, 2, 3, 4, 5))),
        ):
            self.assertEqual(filling(width, numbers), full)
            if hollow is not None:
                self.assertEqual(made(width, numbers), hollow)

    def test_all_steps(self):
        sure = refused = 0
        for width in range(1, 6):
            for numbers in all_steps(width):
                row = model_row(width, numbers)
                if row[1] > 16 or sum(numbers) > 60 or row[-1] > 60:
                    refused += 1
                    check_refused(self, "TooMany", filling, width, numbers)
                    check_refused(self, "TooMany", made, width, numbers)
                else:
                    sure += 1
                    self.check_of(width, numbers, row)
        self.assertGreater(min(sure, refused), 100)

    def check_of(self, width, numbers, row):
        full = filling(width, numbers)
        hollow = made(width, numbers)
        self.assertEqual(list(full), model_filling(width, numbers))
        self.assertEqual(list(hollow), model_border(full))
        self.assertEqual(hollow, border(full))
        self.assertIs(is_net(full), True)
        self.assertIs(is_net(hollow), True)
        self.assertIs(is_closed(hollow), True)
        self.assertEqual(counts(hollow), row)
        self.assertEqual(by_steps(width, numbers), row)
        self.assertEqual(steps(counts(hollow)), numbers)

    def test_what_would_be_too_great(self):
        # By the very nets put together by hand: a point above 15, sides of the border, sides.
        seen = {"point": 0, "border": 0, "sides": 0, "none": 0}
        for width in range(1, 6):
            for numbers in all_steps(width)[::7]:
                if sum(numbers) > 90 or (len(numbers) > 1 and numbers[1] > 16):
                    continue
                full = model_filling(width, numbers)
                barring = []
                barring += ["point"] * (max(max(side) for side in full) > 15)
                barring += ["border"] * (len(model_border(full)) > 60)
                barring += ["sides"] * (len(full) > 60)
                for part in barring or ["none"]:
                    seen[part] += 1
                for deed in (filling, made):
                    if barring:
                        check_refused(self, "TooMany", deed, width, numbers)
                    else:
                        deed(width, numbers)
        self.assertGreater(min(seen.values()), 0)

    def test_just_fifteen_and_just_sixteen(self):
        for width in (2, 3):
            self.assertEqual(max(max(side) for side in filling(width, (1, 15 - width))), 15)
            self.assertEqual(counts(made(width, (1, 15 - width)))[1], 16)
            for deed in (filling, made):
                check_refused(self, "TooMany", deed, width, (1, 16 - width))
        for width in (4, 5):
            self.assertEqual(max(max(side) for side in filling(width, (1, 15 - width, 0))), 15)
            for deed in (filling, made):
                check_refused(self, "TooMany", deed, width, (1, 16 - width, 0))

    def test_just_sixty_sides_of_the_border(self):
        for width in (4, 5):
            found = {model_row(width, numbers)[-1]: numbers for numbers in all_steps(width) if numbers[1] <= 15 - width}
            self.assertEqual(len(made(width, found[60])), 60)
            greater = min(many for many in found if many > 60)
            for deed in (filling, made):
                check_refused(self, "TooMany", deed, width, found[greater])

    def test_no_number_first(self):
        for deed in (filling, made):
            for width in NO_WHOLES + NOTHINGS + (0, 6, -1, 7, GREAT, -GREAT, [1], (1,)):
                for numbers in ((1,), (1, 0), (1, 1, 1), (0,), [1], None, True, (1, MOST, MOST), (1, 99)):
                    check_refused(self, "NoNumber", deed, width, numbers)

    def test_no_way(self):
        for deed in (filling, made):
            for width in range(1, 6):
                good = (1, 2, 1)[:width // 2 + 1]
                for thing in NO_ROWS + (list(good), good + (0,), good[:-1], (), dict(enumerate(good)), [good], (good,), "1 2 1"):
                    check_refused(self, "NoWay", deed, width, thing)
                for part in NO_PARTS:
                    for thing in swapped_in(good, part):
                        check_refused(self, "NoWay", deed, width, thing)
                for thing in ((0, 1, 1), (2, 1, 1), (-1, 1, 1), (1, -1, 0), (1, 1, 2), (1, 2, 4), (1, 0, 1), (1, MOST + 1, 0)):
                    if not_of_crowd(thing[:width // 2 + 1]) is not None:
                        check_refused(self, "NoWay", deed, width, thing[:width // 2 + 1])

    def test_no_way_ahead_of_too_many(self):
        for deed in (filling, made):
            for width, numbers in ((2, (2, 99)), (3, (0, 99)), (4, (1, 99, 9999)), (5, (1, 99, -1)), (4, (1, MOST, MOST + 1)),
                                   (2, (1, MOST + 1)), (2, (1, 99, 0)), (4, (1, 99)), (2, [1, 99])):
                check_refused(self, "NoWay", deed, width, numbers)

    def test_great_steps_are_answered_at_once(self):
        for deed in (filling, made):
            for width, numbers in ((2, (1, MOST)), (3, (1, MOST)), (4, (1, MOST, 0)), (4, (1, MOST, MOST)), (5, (1, MOST, MOST)),
                                   (5, (1, 10 ** 6, 10 ** 11)), (4, (1, 100, 5050))):
                check_refused(self, "TooMany", deed, width, numbers)
                rows_taken(self.refuse, (deed, width, numbers))

    def test_what_is_refused_is_not_made(self):
        for width, numbers in ((4, (1, 11, 66)), (5, (1, 10, 55)), (4, (1, 10, 55))):
            for deed in (filling, made):
                # To make the crowd and the sides takes more.
                rows_taken(self.refuse, (deed, width, numbers), 800)

    def refuse(self, deed, width, numbers):
        check_refused(self, "TooMany", deed, width, numbers)


if __name__ == "__main__":
    unittest.main()
