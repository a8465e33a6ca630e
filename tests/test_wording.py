import itertools
import random
import string
import unittest

from worlds import drawn_script, small_fabric
from worm_samples import RANKED

from calmfabric.cases import case_of
from calmfabric.errors import BadText
from calmfabric.verdicts import greatest_knot
from calmfabric.wording import print_knot, print_script, print_step, print_worm_knot, read_script, read_step
from calmfabric.wormknots import find_worm_knot

STEPS = (
    ("put", 0, 2, 1), ("go", 0, 1), ("out", 3), ("out", 0), ("go", 10, 9), ("put", 9999999, 0, 1000000),
    ("out", 9999999),
)
WRONG_STEPS = (
    "", " ", "put", "go", "out", "nothing", "put 0 1", "put 0 1 2 3", "go 1", "go 1 2 3", "out 1 2", "out", "out ",
    "go 0  1",
    "go  0 1", " go 0 1", "go 0 1 ", "go 0\t1", "go\n0 1", "go 0 1\n", "\ngo 0 1", "Go 0 1", "GO 0 1", "gone 0 1",
    "og 0 1",
    "go 01 2", "go 0 00", "out 007", "go -1 2", "go +1 2", "go 1 -0", "out 12345678", "out 00000001", "out 10000000",
    "go 1.0 2", "go 1,2", "go 1;2", "go a b", "out 0x1", "out 1_0", "out 1e3", "out None", "go ('0', 1)", "switch 1",
    "open 0 1",
    "feed 1", "take 1", "pull 0 1", "0 1", "go:0 1", "out 1;", ";out 1", "out " + "9" * 5000, "x" * 5000, "state",
    "way 1",
    "out \u0661", "out \u00b2", "out\u00a01", "put 0 1 2;", "put 0 1 -",
)


def plain_text(step):
    return " ".join(map(str, step))


class PrintTest(unittest.TestCase):
    def test_steps(self):
        for step, text in (
            (("put", 0, 2, 1), "put 0 2 1"), (("go", 0, 1), "go 0 1"), (("out", 3), "out 3"),
            (("put", 63, 0, 399), "put 63 0 399"),
        ):
            self.assertEqual(print_step(step), text)

    def test_scripts(self):
        self.assertEqual(print_script(()), "nothing")
        self.assertEqual(print_script((("out", 3),)), "out 3")
        self.assertEqual(print_script((("put", 0, 2, 1), ("go", 1, 0), ("out", 0))), "put 0 2 1; go 1 0; out 0")
        for seed in range(30):
            script = drawn_script(small_fabric(seed), seed)[0]
            self.assertEqual(print_script(script), "; ".join(map(plain_text, script)) or "nothing")

    def test_knots(self):
        self.assertEqual(print_knot(((0, 2), (1, 0), (2, 1))), "0>2 1>0 2>1")
        self.assertEqual(print_knot(((17, 3),)), "17>3")
        self.assertEqual(print_worm_knot(((0, (1, 2)), (2, (0,)))), "0:1-2 2:0")
        self.assertEqual(print_worm_knot(((3, (1, 7, 10)),)), "3:1-7-10")
        for seed in range(40):
            knot = greatest_knot(case_of(small_fabric(seed)))
            if knot is not None:
                self.assertEqual(print_knot(knot).split(" "), [f"{c}>{d}" for c, d in knot])
        for fabric in RANKED:
            knot = find_worm_knot(fabric, 9)
            if knot is not None:
                right = [f"{d}:" + "-".join(map(str, way)) for d, way in knot]
                self.assertEqual(print_worm_knot(knot).split(" "), right)


class ReadTest(unittest.TestCase):
    def test_what_was_printed(self):
        for step in STEPS:
            self.assertEqual(read_step(print_step(step)), step)
            self.assertTrue(all(type(number) is int for number in read_step(print_step(step))[1:]))
        for size in range(4):
            for script in itertools.product(STEPS, repeat=size):
                self.assertEqual(read_script(print_script(script)), script)
        for seed in range(40):
            script = drawn_script(small_fabric(seed), seed)[0]
            self.assertEqual(read_script(print_script(script)), script)
            for step in script:
                self.assertEqual(read_step(print_step(step)), step)

    def bad(self, read, text):
        with self.assertRaises(BadText) as caught:
            read(text)
        self.assertEqual(caught.exception.line, 1)

    def test_other_steps(self):
        for text in WRONG_STEPS:
            self.bad(read_step, text)
        for word, many in (("put", 3), ("go", 2), ("out", 1)):
            for count in range(6):
                text = " ".join([word] + ["1"] * count)
                if count == many:
                    self.assertEqual(read_step(text), (word,) + (1,) * many)
                else:
                    self.bad(read_step, text)

    def test_other_scripts(self):
        for text in WRONG_STEPS:
            if text != "nothing":
                self.bad(read_script, text)
                self.bad(read_script, "out 1; " + text)
                self.bad(read_script, text + "; out 1")
                self.bad(read_script, "out 1; " + text + "; go 0 1")
        for text in (
            "out 1;out 2", "out 1 ; out 2", "out 1;  out 2", "out 1; ", "; out 1", "out 1;", ";", "; ",
            "out 1; ; out 2", "out 1;; out 2",
            "out 1, out 2", "out 1\nout 2", "nothing;", "nothing; out 1", "out 1; nothing", "nothing nothing",
            "nothing; nothing",
            "Nothing", "nothing ", " nothing", "nothing 1", "not", "nothings", "out 1; put 0 1",
        ):
            self.bad(read_script, text)
        self.assertEqual(read_script("nothing"), ())

    def test_seven_and_eight_digits(self):
        self.assertEqual(read_step("out 9999999"), ("out", 9999999))
        self.assertEqual(read_step("put 1000000 0 9999999"), ("put", 1000000, 0, 9999999))
        for text in ("out 10000000", "out 99999999", "put 0 10000000 0", "go 1 00000001"):
            self.bad(read_step, text)
            self.bad(read_script, text)

    def test_one_character_more_or_less(self):
        rng = random.Random(5)
        right, wrong = 0, 0
        for step in STEPS:
            text = print_step(step)
            for k in range(len(text) + 1):
                for more in string.printable:
                    for other in (text[:k] + more + text[k:], text[:k] + more + text[k + 1:], text[:k] + text[k + 1:]):
                        try:
                            told = read_step(other)
                        except BadText:
                            wrong += 1
                        else:
                            # It is the text of what was read, and of nothing else.
                            self.assertEqual(plain_text(told), other)
                            self.assertIn((told[0], len(told)), (("put", 4), ("go", 3), ("out", 2)))
                            right += 1
        self.assertTrue(right > 500 and wrong > 5000, (right, wrong))
        for _ in range(500):
            text = "".join(rng.choice("putgo 0123;") for _ in range(rng.randint(0, 9)))
            try:
                self.assertEqual(print_script(read_script(text)), text)
            except BadText as error:
                self.assertEqual(error.line, 1)


if __name__ == "__main__":
    unittest.main()
