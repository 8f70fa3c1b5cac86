"""[2]: what is handed in and what is told."""

import copy
import unittest

from facecounts import bench, chosen, closed, crowds, desk, firsts, made, nets, rows, stacks, swaps, texts
from facecounts.errors import FaceError
from facecounts.kinds import is_rising, is_whole, is_whole_tuple, is_whole_within
from tests.samples import GREAT, NO_NETS, NOTHINGS, POINTLESS, SIXTY, TRIANGLE

QUESTIONS = (
    (nets.is_net, TRIANGLE), (nets.is_net, [[0], {"a": [1]}]), (nets.is_face, TRIANGLE, (0,)),
    (nets.is_face, TRIANGLE, [[0]]), (nets.faces, TRIANGLE, 1), (nets.faces, SIXTY, 2), (nets.counts, TRIANGLE),
    (nets.tally, TRIANGLE), (nets.ring, TRIANGLE, (0,)), (nets.without, TRIANGLE, 2), (nets.joined, TRIANGLE, ((3,), (4,))),
    (nets.joined, POINTLESS, TRIANGLE), (texts.written, TRIANGLE), (texts.read, "0,1 0,2"),
    (nets.faces, [[0, 1], [0, 2]], 1), (nets.faces, TRIANGLE, [1]), (nets.ring, TRIANGLE, [0]), (nets.ring, [[0]], [0]),
    (nets.without, TRIANGLE, [0]), (nets.joined, [[1]], [[0]]), (nets.joined, TRIANGLE, [[3], {}]),
    (nets.counts, [[2, 1], [0]]), (nets.tally, {"b": [1], "a": []}), (texts.written, [[1, 0]]), (texts.read, ["0", ["1"]]),
    (rows.is_row, (1, 3, 3)), (rows.is_row, [1, [3], {"a": 3}]), (rows.turned, (1, 3, 3)), (rows.turned, [1, 3, 3]),
    (rows.turned_back, (1, 1, 1)), (rows.turned_back, [1, 1]), (rows.is_even, (1, 3, 3)), (rows.is_even, [[1]]),
    (rows.first_uneven, (1, 3, 2)), (rows.first_uneven, [1, 3, 2]), (rows.steps, (1, 5, 5)), (rows.steps, {"b": [], "a": 1}),
    (rows.by_steps, 2, (1, 2)), (rows.by_steps, 2, [1, 2]), (rows.by_steps, [2], [1, 2]), (rows.by_half, 3, (1, 6)),
    (rows.by_half, 3, [1, 6]), (rows.by_half, {2: 1}, [1]),
    (closed.is_level, TRIANGLE), (closed.is_level, [[0, 1]]), (closed.is_closed, TRIANGLE), (closed.is_closed, [[1, 0]]),
    (closed.balance, TRIANGLE, (0,)), (closed.balance, TRIANGLE, [0]), (closed.balance, [[0]], [0]),
    (closed.first_open, TRIANGLE[1:]), (closed.first_open, [[2, 1], [0]]), (closed.border, TRIANGLE[1:]),
    (closed.border, TRIANGLE), (closed.border, [[0, 1], [0]]),
    (chosen.choose, 9, 3), (chosen.choose, [9], [3]), (chosen.writing, 28, 3), (chosen.writing, 28, [3]),
    (chosen.writing, [2, 1], 3), (chosen.is_writing, (6, 4, 2), 28, 3), (chosen.is_writing, [6, 4, 2], 28, 3),
    (chosen.is_writing, [[6], {"a": [4]}], [28], [3]), (chosen.most_above, 28, 3), (chosen.most_above, [28], 3),
    (chosen.least_below, 28, 3), (chosen.least_below, 28, [3]), (chosen.bags_above, 28, 3), (chosen.bags_above, {}, []),
    (crowds.is_crowd, ((), (0,), (1,))), (crowds.is_crowd, [[], [0]]), (crowds.is_crowd, ((), [0], {"b": 1, "a": [2]})),
    (crowds.crowd_counts, ((), (0,), (1,))), (crowds.crowd_counts, [[1, 0], []]), (crowds.not_of_net, (1, 3, 4)),
    (crowds.not_of_net, [1, 3, 4]), (crowds.not_of_crowd, (1, 3, 7)), (crowds.not_of_crowd, {"b": [1], "a": 2}),
    (firsts.first_net, (1, 4, 4, 1)), (firsts.first_net, [1, [4]]), (firsts.first_net, (1, 3, 9)), (firsts.first_net, (1, 99)),
    (firsts.first_crowd, (1, 3, 4)), (firsts.first_crowd, [[1], 3]), (firsts.first_crowd, (1, 1, 2)),
    (firsts.first_crowd, (1, 99)), (made.barred, (1, 6, 12, 8)), (made.barred, (1, 3, 2)), (made.barred, [1, [3], 2]),
    (made.least_row, 4, 8), (made.least_row, [4], 8), (made.greatest_row, 4, 8), (made.greatest_row, 4, [8]),
    (made.all_rows, 6, 10), (made.all_rows, [6], {"b": 1, "a": 2}), (made.filling, 4, (1, 3, 2)), (made.filling, 4, [1, 3, 2]),
    (made.filling, [4], [1, 3]), (made.made, 4, (1, 3, 2)), (made.made, 4, [[3], 1]), (made.made, 4, (1, 12, 12)),
    (swaps.swaps, TRIANGLE), (swaps.swaps, [[0, 1], [1]]), (swaps.swaps, TRIANGLE[1:]), (swaps.is_swap, TRIANGLE, ((0, 1), (3,))),
    (swaps.is_swap, TRIANGLE, [[0, 1], [3]]), (swaps.is_swap, TRIANGLE, ((0, 1), [3], {"b": 1, "a": [2]})),
    (swaps.is_swap, [[1], [0]], [[1]]), (swaps.swapped, TRIANGLE, ((0, 1), (3,))), (swaps.swapped, TRIANGLE, [[0, 1], [3]]),
    (swaps.swapped, [[0]], [[0], [3]]), (swaps.change_by, 4, 2), (swaps.change_by, [4], 2), (swaps.change_by, 4, [2]),
    (stacks.stacked, 3, (0, 5)), (stacks.stacked, 3, [0, 5]), (stacks.stacked, [3], [0]), (stacks.stacked, 3, (0, 6)),
)


def answer(deed, things):
    """Tell what is answered, or the name of the refusal."""
    try:
        return deed(*things)
    except FaceError as refusal:
        return refusal.__class__.__name__


class Asking(unittest.TestCase):

    def test_what_is_handed_in_is_as_it_was(self):
        for deed, *things in QUESTIONS:
            kept = copy.deepcopy(things)
            answer(deed, things)
            self.assertEqual(repr(things), repr(kept))

    def test_the_same_question_has_the_same_answer(self):
        first = [answer(deed, things) for deed, *things in QUESTIONS]
        again = [answer(deed, things) for deed, *things in reversed(QUESTIONS)]
        self.assertEqual(first, again[::-1])

    def test_a_told_list_is_the_askers_own(self):
        for size, told_first in ((0, [()]), (1, [(0,), (1,), (2,)]), (2, list(TRIANGLE)), (6, [])):
            told = nets.faces(TRIANGLE, size)
            kept = nets.faces(TRIANGLE, size)
            self.assertIsNot(told, kept)
            told.append((9,))
            del told[0]
            self.assertEqual(kept, told_first)
            self.assertEqual(nets.faces(TRIANGLE, size), told_first)

    def test_no_list_is_told_twice(self):
        for deed, *things in ((nets.faces, SIXTY, 2), (made.all_rows, 6, 10), (made.all_rows, 2, 3), (swaps.swaps, TRIANGLE),
                              (swaps.swaps, POINTLESS), (nets.faces, TRIANGLE, 6)):
            told = [deed(*things) for _ in range(4)]
            self.assertEqual(len({id(one) for one in told}), 4)
            kept = list(told[0])
            told[1].append(None)
            told[2].clear()
            self.assertEqual((told[0], told[3], deed(*things)), (kept, kept, kept))

    def test_nothing_hangs_on_what_was_handed_in(self):
        thing = [(0, 1)]
        self.assertIs(nets.is_net(thing), False)
        thing.append((0, 2))
        self.assertIs(nets.is_net(tuple(thing)), True)
        self.assertIs(nets.is_net(thing), False)

    def test_what_was_told_may_be_handed_in_again(self):
        told = nets.faces(SIXTY, 2)
        self.assertIs(nets.is_net(told), False)
        self.assertIs(nets.is_net(tuple(told)), True)
        self.assertIs(nets.is_face(TRIANGLE, nets.faces(TRIANGLE, 1)), False)
        there = rows.turned_back((10 ** 59,) * 12)
        self.assertIs(rows.is_row(there), True)
        self.assertEqual(rows.turned(there), (10 ** 59,) * 12)
        self.assertIs(rows.is_row(chosen.writing(10 ** 12, 12)), True)
        self.assertIs(chosen.is_writing(rows.turned(there), 10 ** 12, 12), False)

    def test_arguments_are_named_as_the_interface_names_them(self):
        for deed, names in (
            (nets.is_net, "thing"), (nets.is_face, "net thing"), (nets.faces, "net size"), (nets.counts, "net"),
            (nets.tally, "net"), (nets.ring, "net face"), (nets.without, "net point"), (nets.joined, "one other"),
            (texts.written, "net"), (texts.read, "text"),
            (rows.is_row, "thing"), (rows.turned, "row"), (rows.turned_back, "row"), (rows.is_even, "row"),
            (rows.first_uneven, "row"), (rows.steps, "row"), (rows.by_steps, "width numbers"),
            (rows.by_half, "width numbers"),
            (closed.is_level, "net"), (closed.is_closed, "net"), (closed.balance, "net face"),
            (closed.first_open, "net"), (closed.border, "net"),
            (chosen.choose, "things number"), (chosen.writing, "number size"), (chosen.is_writing, "thing number size"),
            (chosen.most_above, "number size"), (chosen.least_below, "number size"), (chosen.bags_above, "number size"),
            (crowds.is_crowd, "thing"), (crowds.crowd_counts, "crowd"), (crowds.not_of_net, "row"),
            (crowds.not_of_crowd, "row"), (firsts.first_net, "row"), (firsts.first_crowd, "row"), (made.barred, "row"),
            (made.least_row, "width points"), (made.greatest_row, "width points"), (made.all_rows, "width points"),
            (made.filling, "width steps"), (made.made, "width steps"), (swaps.swaps, "net"), (swaps.is_swap, "net thing"),
            (swaps.swapped, "net swap"), (swaps.change_by, "width size"), (stacks.stacked, "width places"),
            (bench.Bench.lay, "self net"), (bench.Bench.swap, "self swap"), (bench.Bench.join, "self net"),
            (bench.Bench.undo, "self"), (bench.Bench.net, "self"), (desk.Desk.say, "self row"), (bench.Bench.__init__, "self"),
            (desk.Desk.__init__, "self"),
        ):
            code = deed.__code__
            self.assertEqual(code.co_varnames[:code.co_argcount], tuple(names.split()))


class Kinds(unittest.TestCase):

    def test_whole_numbers(self):
        for thing in (0, 1, -1, GREAT, -GREAT):
            self.assertIs(is_whole(thing), True)
        for thing in (True, False, None, "1", 1.0, (), (1,), [1], {}):
            self.assertIs(is_whole(thing), False)

    def test_whole_numbers_within_bounds(self):
        self.assertEqual([number for number in range(-9, 9) if is_whole_within(number, -2, 1)], [-2, -1, 0, 1])
        for thing in NOTHINGS + NO_NETS:
            self.assertIs(is_whole_within(thing, 0, 6), False)

    def test_tuples_of_whole_numbers(self):
        for thing in ((), (0,), (-1, GREAT), tuple(range(2000))):
            self.assertIs(is_whole_tuple(thing), True)
        for thing in ([], [0], {0: 0}, "0", 0, None, True, (True,), (0, False), (None, 0), (0, (0,)), ("0",), (0, 1.0)):
            self.assertIs(is_whole_tuple(thing), False)

    def test_rising(self):
        for things in ((), (3,), (1, 2), ((0,), (0, 1), (1,)), [(), (0,)]):
            self.assertIs(is_rising(things), True)
        for things in ((1, 1), (2, 1), (1, 3, 2), (1, 2, 2), ((0, 1), (0,)), ((1,), (0, 5))):
            self.assertIs(is_rising(things), False)


if __name__ == "__main__":
    unittest.main()
