"""[8]: nets written and read."""

import re
import unittest
from itertools import product

from facecounts.nets import is_net
from facecounts.texts import read, written
from tests.samples import (
    GREATER_NETS, NO_NETS, NOTHINGS, POINTLESS, SIX, SIXTY, SIXTY_ONE, SMALL_NETS, TRIANGLE, check_refused, model_is_net,
)

LONGEST = (tuple(range(10, 16)),)
POINT = "(0|[1-9][0-9]*)"
SIDE = f"{POINT}(,{POINT})*"
SIDES = re.compile(f"{SIDE}( {SIDE})*")


def model_read(text):
    """Tell the net of a text of few signs, None where there is none."""
    if text == "-":
        return POINTLESS
    if SIDES.fullmatch(text) is None:
        return None
    sides = tuple(tuple(int(point) for point in side.split(",")) for side in text.split(" "))
    rising = all(list(side) == sorted(set(side)) and side[-1] <= 15 for side in sides)
    return sides if rising and model_is_net(sides) else None


class Written(unittest.TestCase):

    def test_known_ones(self):
        self.assertEqual(written(((0, 1), (0, 12), (1, 12))), "0,1 0,12 1,12")
        self.assertEqual(written(POINTLESS), "-")
        self.assertEqual(written(((0,),)), "0")
        self.assertEqual(written(((0,), (1, 2), (10,))), "0 1,2 10")
        self.assertEqual(written((SIX,)), "0,1,2,3,4,5")
        self.assertEqual(written(LONGEST), "10,11,12,13,14,15")
        self.assertEqual(written(tuple((point,) for point in range(16))), "0 1 2 3 4 5 6 7 8 9 10 11 12 13 14 15")

    def test_no_net(self):
        for thing in NOTHINGS + NO_NETS:
            check_refused(self, "NoNet", written, thing)


class Read(unittest.TestCase):

    def test_known_ones(self):
        self.assertEqual(read("0,1 0,12 1,12"), ((0, 1), (0, 12), (1, 12)))
        self.assertEqual(read("-"), POINTLESS)
        self.assertEqual(read("0"), ((0,),))
        self.assertEqual(read("2 10"), ((2,), (10,)))

    def test_what_is_written(self):
        for net in SMALL_NETS + list(GREATER_NETS) + [LONGEST, TRIANGLE]:
            self.assertEqual(read(written(net)), net)
            self.assertTrue(is_net(read(written(net))))

    def test_each_text_of_few_signs(self):
        nets = 0
        for size in range(7):
            for signs in product("012, -", repeat=size):
                text = "".join(signs)
                net = model_read(text)
                if net is None:
                    check_refused(self, "NoText", read, text)
                else:
                    nets += 1
                    self.assertEqual(read(text), net)
                    self.assertEqual(written(net), text)
        self.assertGreater(nets, 50)

    def test_each_sign_put_in(self):
        text = "0,1 0,12 1,12"
        for sign in [chr(code) for code in range(32, 127)] + ["\t", "\n", "\r", "\r\n"]:
            for at in range(len(text) + 1):
                changed = text[:at] + sign + text[at:]
                if model_read(changed) is None:
                    check_refused(self, "NoText", read, changed)
                else:
                    self.assertEqual(read(changed), model_read(changed))

    def test_other_forms_of_numbers(self):
        for text in ("00", "01", "00,1", "0,01", "0,1 0,02", "+1", "-1", "-0", "0,-1", "1.0", "1_0", "0x1", "1e0",
                     "0, 1", " 0", "0 ", "16", "0,16", "100", "1" * 1200, "9" * 60, "\u0661", "\u00b2", "True"):
            check_refused(self, "NoText", read, text)

    def test_blanks_tabs_and_line_ends(self):
        for text in ("", " ", "  ", " 0,1", "0,1 ", "0,1  0,2", "0,1\t0,2", "\t0,1", "0,1\t", "0,1\n", "\n0,1", "0,1\n0,2",
                     "0,1\r\n", "0 ,1", "0,\n1", "\n", "\t", "-\n", "- ", " -"):
            check_refused(self, "NoText", read, text)

    def test_the_side_without_points(self):
        for text in ("- 0", "0 -", "- -", "0,- 1", "-,0", "0,-", "-,-", "--", "0 - 1", "0,1 - 2"):
            check_refused(self, "NoText", read, text)

    def test_commas(self):
        for text in (",", "0,", ",0", "0,,1", "0,1,", "0,1 ,2", "0,1, 2", "0;1", "(0,1)", "0,1 ,"):
            check_refused(self, "NoText", read, text)

    def test_texts_of_what_is_no_net(self):
        for text in ("1,0", "0,0", "0 0", "1 0", "0,1 0", "0 0,1", "0,2 0,1", "10 2", "0,1,2,3,4,5,6", "0,1 0,2 2",
                     " ".join(",".join(map(str, side)) for side in SIXTY_ONE)):
            check_refused(self, "NoText", read, text)
        self.assertEqual(read(" ".join(",".join(map(str, side)) for side in SIXTY)), SIXTY)

    def test_things_of_other_kinds(self):
        for thing in NOTHINGS + NO_NETS:
            if thing != "0,1":
                check_refused(self, "NoText", read, thing)
        for thing in (0, 1, 12, TRIANGLE, ["0"], ("0",), {"0": "0"}, ["0", ",", "1"], b"0,1"):
            check_refused(self, "NoText", read, thing)


if __name__ == "__main__":
    unittest.main()
