"""[26]: a desk that is told rows of words."""

import unittest
from random import Random

from facecounts.bench import Bench
from facecounts.desk import Desk
from facecounts.errors import FaceError
from facecounts.made import made
from facecounts.nets import counts
from facecounts.rows import steps, turned
from facecounts.swaps import swaps
from facecounts.texts import written
from tests.samples import (
    BORDERS, CIRCLES, CLOSED_NETS, NOTHINGS, POINTLESS, TRIANGLE, WALKS, border_of, check_refused, circle,
)

DEEDS = ("lay 7 9", "lay -", "join 7 9", "join -", "lay 0,1 0,2 1,2", "swap 0,1 3", "undo")
QUESTIONS = ("net", "counts", "turned", "steps", "swaps")

# What is no row that the desk knows, whatever net is kept.
NO_LINES = (
    "", " ", "  ", "\n", "\t", "-", "0", "0,1", "ok", "help", "say", "lay", "join", "swap", "lay ", "join ", "swap ", "swap  ",
    "undo 1", "net 0", "counts -", "turned 0", "steps 1", "swaps 0,1 3", "net net", "undo undo", "undone", "nets", "count",
    "step", "turn", "laying", "Lay 7 9", "LAY 7 9", "lAy 7 9", "Net", "NET", "Undo", "UNDO", "Counts", "Swaps", "Swap 0,1 3",
    "lay7 9", "lay,7 9", "lay\t7 9", "lay\n7 9", "lay  7 9", "lay 7  9", "lay 7 9 ", "lay 7 9\n", " lay 7 9", "\nlay 7 9",
    "lay 7\t9", "lay 9 7", "lay 7 7", "lay 07 9", "lay 7 16", "lay 7 -1", "lay 7 x", "lay 7,9,", "lay ,7", "lay 7;9", "lay 7.9",
    "lay 1,0", "lay 0,0", "lay 0 0,1", "lay - 0", "lay - -", "lay --", "lay 0,1,2,3,4,5,6", "lay +7 9", "lay 7, 9", "lay 7 ,9",
    "lay lay", "lay net", "lay lay 7 9", "lay ((7,), (9,))", "join 9 7", "join 07 9", "join 7 16", "join  7 9", "join 7 9 ",
    "join\t7 9", "join x", "join 7  9", "Join 7 9", "joined 7 9",
    "swap 0,1", "swap 0,1 ", "swap 0,1  3", "swap  0,1 3", " swap 0,1 3", "swap 0,1 3 ", "swap 0,1 3 4", "swap 0,1 3\n",
    "swap 0,1 03", "swap 0,1 16", "swap 1,0 3", "swap 0,0 3", "swap 0,1 -3", "swap 0,1 x", "swap x 3", "swap 0,1, 3",
    "swap 0,1,2,3,4,5,6 3", "swap 0,1 3,", "swap ,0 3", "swap (0,1) (3)", "swap 0,1\t3", "swap 0,1\n3", "swap\t0,1 3", "swap 0,1;3",
    "swap - ", "swap  -", "swap --", "swap - - -", "swap -- 3", "swaps ", " swaps", "swaps\n", "swap\n",
    "net ", " net", "net\n", "\tnet", "undo ", " undo", "undo\n", "counts ", " counts", "turned ", "steps ", " steps", "steps\t",
    "n", "net,counts", "net counts", "counts;", "x" * 1200, "lay " + "0" * 1196, "lay " + "0,1 " * 290,
)


def numbers_of(row):
    return " ".join(str(number) for number in row)


def answers(desk):
    """Tell the answers to all questions."""
    return [desk.say(word) for word in QUESTIONS]


def due_answers(net):
    row = counts(net)
    return [written(net), numbers_of(row), numbers_of(turned(row)), numbers_of(steps(row)), str(len(swaps(net)))]


def face_text(face):
    return ",".join(str(point) for point in face) or "-"


def some_deed(chance, bench):
    """Tell some row, the deed of the bench that it says, and what is handed to that."""
    net = chance.choice(CIRCLES[:5] + BORDERS[:4] + (((0,), (1, 2)), ((9,), (12,)), ((13,), (14,)), ((0, 1), (1, 2))))
    swap = chance.choice(swaps(bench.net()) + [((0, 1), (9,)), ((), ())])
    swapping = (f"swap {face_text(swap[0])} {face_text(swap[1])}", bench.swap, (swap,))
    return chance.choice((
        (f"lay {written(net)}", bench.lay, (net,)), (f"join {written(net)}", bench.join, (net,)), ("undo", bench.undo, ()),
        swapping, swapping, swapping,
    ))


class Rows(unittest.TestCase):

    def test_at_first(self):
        self.assertEqual(answers(Desk()), ["0,1 0,2 1,2", "1 3 3", "1 1 1", "1 0", "3"])

    def test_known_ones(self):
        desk = Desk()
        for row, told in (
            ("swap 0,1 3", "ok"), ("net", "0,2 0,3 1,2 1,3"), ("counts", "1 4 4"), ("turned", "1 2 1"), ("steps", "1 1"),
            ("swaps", "8"), ("join 7 10", "ok"), ("counts", "1 6 12 8"), ("turned", "1 3 3 1"), ("steps", "1 2"), ("undo", "ok"),
            ("net", "0,2 0,3 1,2 1,3"), ("lay -", "ok"), ("net", "-"), ("counts", "1"), ("turned", "1"), ("steps", "1"),
            ("swaps", "0"), ("join 0 15", "ok"), ("net", "0 15"), ("swap 15 1", "ok"), ("net", "0 1"), ("undo", "ok"),
            ("undo", "ok"), ("undo", "ok"), ("undo", "ok"), ("net", "0,1 0,2 1,2"),
            ("lay 0,1 0,2 1,2 3,4 3,5 4,5", "ok"), ("counts", "1 6 6"), ("turned", "1 4 1"), ("steps", "1 3"),
        ):
            self.assertEqual(desk.say(row), told, row)

    def test_each_closed_net(self):
        desk = Desk()
        for net in CLOSED_NETS + WALKS:
            self.assertEqual(desk.say(f"lay {written(net)}"), "ok")
            self.assertEqual(answers(desk), due_answers(net))

    def test_numbers_below_0(self):
        # Two borders of five points: closed, as the width is even, and turned they fall behind place 1.
        desk = Desk()
        net = border_of((0, 1, 2, 3, 4)) + border_of((5, 6, 7, 8, 9))
        self.assertEqual(desk.say(f"lay {written(net)}"), "ok")
        self.assertEqual(desk.say("counts"), "1 10 20 20 10")
        self.assertEqual(desk.say("turned"), "1 6 -4 6 1")
        self.assertEqual(desk.say("steps"), "1 5 -10")

    def test_each_swap(self):
        for net in (TRIANGLE, circle(0, 4, 9, 15), BORDERS[3], WALKS[25], WALKS[40]):
            for out, into in swaps(net):
                desk, bench = Desk(), Bench()
                desk.say(f"lay {written(net)}")
                bench.lay(net)
                bench.swap((out, into))
                self.assertEqual(desk.say(f"swap {face_text(out)} {face_text(into)}"), "ok")
                self.assertEqual(desk.say("net"), written(bench.net()))
                self.assertEqual(desk.say("undo"), "ok")
                self.assertEqual(desk.say("net"), written(net))

    def test_answers_are_texts(self):
        desk = Desk()
        for row in QUESTIONS + DEEDS:
            self.assertIs(desk.say(row).__class__, str)

    def test_as_the_bench_tells(self):
        done = refused = 0
        for seed in range(12):
            chance = Random(seed)
            desk, bench = Desk(), Bench()
            for _ in range(60):
                row, deed, things = some_deed(chance, bench)
                try:
                    deed(*things)
                except FaceError as refusal:
                    refused += 1
                    check_refused(self, refusal.__class__.__name__, desk.say, row)
                else:
                    done += 1
                    self.assertEqual(desk.say(row), "ok")
                self.assertEqual(desk.say("net"), written(bench.net()))
        self.assertGreater(min(done, refused), 100)


class Refusals(unittest.TestCase):

    def check_unchanged(self, desk, name, row):
        """Hold that the row is refused and that nothing is changed by it."""
        before = desk.say("net")
        check_refused(self, name, desk.say, row)
        self.assertEqual(desk.say("net"), before)

    def test_those_of_the_bench(self):
        desk = Desk()
        for name, row in (
            ("NotClosed", "lay 0,1"), ("NotClosed", "lay 0"), ("NotClosed", "lay 0 1 2"), ("NotClosed", "lay 0,1 0,2"),
            ("NotClosed", "lay 0 1,2"), ("NotClosed", "join 9"), ("NotClosed", "join 0"), ("NotApart", "join 0 1"),
            ("NotApart", "join 0,1 0,2 1,2"), ("NotApart", "join 2 9"), ("NoSwap", "swap 0,1 4"), ("NoSwap", "swap 3 0,1"),
            ("NoSwap", "swap - -"), ("NoSwap", "swap - 0,1,2"), ("NoSwap", "swap 0,1,2 -"), ("NoSwap", "swap 0,1 15"),
            ("NoSwap", "swap 0 1,2"), ("NoSwap", "swap 0,1 0,1"), ("NoSwap", "swap 0,1,2,3,4,5 6"), ("NoDeed", "undo"),
        ):
            self.check_unchanged(desk, name, row)

    def test_too_many(self):
        desk = Desk()
        net = made(4, (1, 9, 28))
        desk.say(f"lay {written(net)}")
        self.check_unchanged(desk, "TooMany", f"swap {face_text(net[0])} 14")
        self.check_unchanged(desk, "NoSwap", f"swap {face_text(net[0])} 15")
        desk.say(f"lay {written(circle(*range(7)))}")
        self.check_unchanged(desk, "TooMany", f"join {written(circle(*range(7, 16)))}")
        self.check_unchanged(desk, "NotApart", f"join {written(circle(*range(6, 16)))}")
        desk.say("undo")
        desk.say("undo")
        self.check_unchanged(desk, "NoDeed", "undo")

    def test_no_such_row(self):
        for desk in (Desk(), self.worn_desk()):
            for row in NO_LINES:
                self.check_unchanged(desk, "NoLine", row)

    def worn_desk(self):
        """Tell a desk on which something is done."""
        desk = Desk()
        desk.say("swap 0,1 3")
        desk.say("join 7 9")
        return desk

    def test_anything_that_is_no_text(self):
        desk = Desk()
        for thing in [thing for thing in NOTHINGS if thing.__class__ is not str] + [
            ("net",), ["net"], {"net": 1}, b"net", ["lay", "7 9"], ("swap", (0, 1), (3,)), TRIANGLE, POINTLESS, 0, (), [[["net"]]],
        ]:
            self.check_unchanged(desk, "NoLine", thing)

    def test_texts_of_anything(self):
        for thing in NOTHINGS:
            if thing.__class__ is str:
                self.check_unchanged(Desk(), "NoLine", thing)

    def test_no_line_ahead_of_all_else(self):
        desk = Desk()
        # Neither a face as it is written nor a swap, a net that isn't closed and ends otherwise, nothing to undo.
        for row in ("swap 0,1 16", "swap 9 00", "swap 9,8 3", "lay 0,1 ", "lay 0 1 2 ", "join 0,1 0,2 1,2 ", "undo ", "undo 0"):
            self.check_unchanged(desk, "NoLine", row)

    def test_each_good_row_with_a_sign_put_in_or_left_out(self):
        desk = Desk()
        rows = DEEDS + QUESTIONS
        for row in rows:
            for at in range(len(row) + 1):
                for sign in (" ", "\t", "\n", "%", "A", "-", ","):
                    self.check_near(desk, row[:at] + sign + row[at:], rows)
                if at < len(row):
                    self.check_near(desk, row[:at] + row[at + 1:], rows)
                    self.check_near(desk, row[:at] + row[at].upper() + row[at + 1:], rows)

    def check_near(self, desk, row, rows):
        """Hold that a row nearly as it is to be is none, unless by chance its nets and faces are written well."""
        word, _, rest = row.partition(" ")
        well = row in rows or (word in ("lay", "join") and written_well(rest)) or (
            word == "swap" and len(rest.split(" ")) == 2 and all(written_well(part) for part in rest.split(" ")))
        if not well:
            self.check_unchanged(desk, "NoLine", row)

    def test_what_is_refused_cannot_be_undone(self):
        desk = Desk()
        desk.say("swap 0,1 3")
        for row in ("lay 0", "join 0 1", "swap 0,1 3", "nothing", None, "lay 1,0"):
            with self.assertRaises(FaceError):
                desk.say(row)
        self.assertEqual(desk.say("undo"), "ok")
        self.assertEqual(desk.say("net"), "0,1 0,2 1,2")
        check_refused(self, "NoDeed", desk.say, "undo")

    def test_questions_are_no_deeds(self):
        desk = Desk()
        answers(desk)
        check_refused(self, "NoDeed", desk.say, "undo")


def written_well(text):
    """Tell whether a text is a net as it is written, by each word of it told by itself."""
    sides = []
    for word in text.split(" "):
        parts = [] if word == "-" else word.split(",")
        if any(part not in [str(point) for point in range(16)] for part in parts):
            return False
        sides.append([int(part) for part in parts])
    rising = all(side == sorted(set(side)) and len(side) <= 6 for side in sides)
    apart = not any(set(one) <= set(other) for at, one in enumerate(sides) for to, other in enumerate(sides) if at != to)
    return rising and apart and sides == sorted(sides) and len(sides) <= 60


class Apart(unittest.TestCase):

    def test_two_desks_have_nothing_in_common(self):
        one, other = Desk(), Desk()
        one.say("lay 7 9")
        self.assertEqual(other.say("net"), "0,1 0,2 1,2")
        check_refused(self, "NoDeed", other.say, "undo")
        other.say("swap 0,1 3")
        self.assertEqual(one.say("net"), "7 9")
        one.say("undo")
        self.assertEqual((one.say("net"), other.say("counts")), ("0,1 0,2 1,2", "1 4 4"))
        check_refused(self, "NoDeed", one.say, "undo")

    def test_the_same_question_has_the_same_answer(self):
        desk = Desk()
        desk.say("join 7 9")
        self.assertEqual(answers(desk), answers(desk))


if __name__ == "__main__":
    unittest.main()
