"""[2], of nets and texts: what is handed in and what is told."""

import copy
import unittest

from facecounts import nets, texts
from facecounts.errors import FaceError
from facecounts.kinds import is_rising, is_whole, is_whole_within
from tests.samples import GREAT, NO_NETS, NOTHINGS, POINTLESS, SIXTY, TRIANGLE

QUESTIONS = (
    (nets.is_net, TRIANGLE), (nets.is_net, [[0], {"a": [1]}]), (nets.is_face, TRIANGLE, (0,)),
    (nets.is_face, TRIANGLE, [[0]]), (nets.faces, TRIANGLE, 1), (nets.faces, SIXTY, 2), (nets.counts, TRIANGLE),
    (nets.tally, TRIANGLE), (nets.ring, TRIANGLE, (0,)), (nets.without, TRIANGLE, 2), (nets.joined, TRIANGLE, ((3,), (4,))),
    (nets.joined, POINTLESS, TRIANGLE), (texts.written, TRIANGLE), (texts.read, "0,1 0,2"),
    (nets.faces, [[0, 1], [0, 2]], 1), (nets.faces, TRIANGLE, [1]), (nets.ring, TRIANGLE, [0]), (nets.ring, [[0]], [0]),
    (nets.without, TRIANGLE, [0]), (nets.joined, [[1]], [[0]]), (nets.joined, TRIANGLE, [[3], {}]),
    (nets.counts, [[2, 1], [0]]), (nets.tally, {"b": [1], "a": []}), (texts.written, [[1, 0]]), (texts.read, ["0", ["1"]]),
)


def answer(deed, things):
    """Tell what is answered, or the name of the refusal."""
    try:
        return deed(*things)
    except FaceError as refusal:
        return refusal.__class__.__name__


class Asking(unittest.TestCase):

    def test_what_is_handed_in_is_as_it_was(self):
        for deed, *things in QUESTIONS:
            kept = copy.deepcopy(things)
            answer(deed, things)
            self.assertEqual(repr(things), repr(kept))

    def test_the_same_question_has_the_same_answer(self):
        first = [answer(deed, things) for deed, *things in QUESTIONS]
        again = [answer(deed, things) for deed, *things in reversed(QUESTIONS)]
        self.assertEqual(first, again[::-1])

    def test_a_told_list_is_the_askers_own(self):
        for size, told_first in ((0, [()]), (1, [(0,), (1,), (2,)]), (2, list(TRIANGLE)), (6, [])):
            told = nets.faces(TRIANGLE, size)
            kept = nets.faces(TRIANGLE, size)
            self.assertIsNot(told, kept)
            told.append((9,))
            del told[0]
            self.assertEqual(kept, told_first)
            self.assertEqual(nets.faces(TRIANGLE, size), told_first)

    def test_nothing_hangs_on_what_was_handed_in(self):
        thing = [(0, 1)]
        self.assertIs(nets.is_net(thing), False)
        thing.append((0, 2))
        self.assertIs(nets.is_net(tuple(thing)), True)
        self.assertIs(nets.is_net(thing), False)

    def test_what_was_told_may_be_handed_in_again(self):
        told = nets.faces(SIXTY, 2)
        self.assertIs(nets.is_net(told), False)
        self.assertIs(nets.is_net(tuple(told)), True)
        self.assertIs(nets.is_face(TRIANGLE, nets.faces(TRIANGLE, 1)), False)

    def test_arguments_are_named_as_the_interface_names_them(self):
        for deed, names in (
            (nets.is_net, "thing"), (nets.is_face, "net thing"), (nets.faces, "net size"), (nets.counts, "net"),
            (nets.tally, "net"), (nets.ring, "net face"), (nets.without, "net point"), (nets.joined, "one other"),
            (texts.written, "net"), (texts.read, "text"),
        ):
            code = deed.__code__
            self.assertEqual(code.co_varnames[:code.co_argcount], tuple(names.split()))


class Kinds(unittest.TestCase):

    def test_whole_numbers(self):
        for thing in (0, 1, -1, GREAT, -GREAT):
            self.assertIs(is_whole(thing), True)
        for thing in (True, False, None, "1", 1.0, (), (1,), [1], {}):
            self.assertIs(is_whole(thing), False)

    def test_whole_numbers_within_bounds(self):
        self.assertEqual([number for number in range(-9, 9) if is_whole_within(number, -2, 1)], [-2, -1, 0, 1])
        for thing in NOTHINGS + NO_NETS:
            self.assertIs(is_whole_within(thing, 0, 6), False)

    def test_rising(self):
        for things in ((), (3,), (1, 2), ((0,), (0, 1), (1,)), [(), (0,)]):
            self.assertIs(is_rising(things), True)
        for things in ((1, 1), (2, 1), (1, 3, 2), (1, 2, 2), ((0, 1), (0,)), ((1,), (0, 5))):
            self.assertIs(is_rising(things), False)


if __name__ == "__main__":
    unittest.main()
