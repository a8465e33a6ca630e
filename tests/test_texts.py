import random
import re
import unittest

from samples import (
    CHAIN4, DOUBLE, FABRICS, MIXED, NO_OPTIONS, PAIR, RING3, greatest, plain_dead_ends, random_fabric, random_network,
    random_table, table_of,
)

from calmfabric.errors import BadText, FabricError
from calmfabric.networks import dead_ends, is_fabric
from calmfabric.tables import empty_table, with_option
from calmfabric.texts import print_fabric, read_fabric

HEAD = "nodes 3\nchannel 0 1 1\nchannel 1 2 1\nchannel 2 0 1\n"
PAIR_TEXT = "nodes 2\nchannel 0 1 3\nchannel 1 0 3\nat 0 to 1 : 0\nat 1 to 0 : 1"
NUMBER = "(?:0|[1-9][0-9]*)"


def limited(word, low, high):
    """Whether a word is a number from low to high, without reading numbers of many digits."""
    return word in [str(number) for number in range(low, high + 1)]


def right_channel(n, line):
    if not re.fullmatch(f"channel {NUMBER} {NUMBER} {NUMBER}", line):
        return False
    _, u, v, room = line.split(" ")
    return limited(u, 0, n - 1) and limited(v, 0, n - 1) and u != v and limited(room, 1, 1000)


def right_cell(n, sources, before, line):
    """The pair and options of a right `at` line, or None."""
    if not re.fullmatch(f"at {NUMBER} to {NUMBER} :(?: {NUMBER})+", line):
        return None
    words = line.split(" ")
    if not limited(words[1], 0, n - 1) or not limited(words[3], 0, n - 1):
        return None
    u, d = int(words[1]), int(words[3])
    if u == d or (u, d) <= before or not all(limited(word, 0, len(sources) - 1) for word in words[5:]):
        return None
    cell = tuple(int(word) for word in words[5:])
    if list(cell) != sorted(set(cell)) or any(sources[c] != u for c in cell):
        return None
    return (u, d), cell


def wrong_line(text):
    """The line that BadText names by the words of [1.9], or None for a right text."""
    lines = text.split("\n")
    if not re.fullmatch(f"nodes {NUMBER}", lines[0]) or not limited(lines[0][6:], 2, 64):
        return 1
    n = int(lines[0][6:])
    channels = []
    cells = {}
    where = {}
    for at, line in enumerate(lines[1:], 2):
        if not cells and len(channels) < 400 and right_channel(n, line):
            channels.append(tuple(int(word) for word in line.split(" ")[1:]))
            continue
        before = max(cells, default=(-1, -1))
        cell = right_cell(n, [channel[0] for channel in channels], before, line)
        if not channels or cell is None:
            return at
        cells[cell[0]] = cell[1]
        where[cell[0]] = at
    if len(lines) < 2:
        return 2
    ends = plain_dead_ends((n, tuple(channels)), table_of(n, cells))
    return where[ends[0][:2]] if ends else None


class TextCase(unittest.TestCase):
    def bad(self, text, line):
        with self.assertRaises(BadText) as caught:
            read_fabric(text)
        self.assertEqual(caught.exception.line, line, text[:200])
        self.assertIs(type(caught.exception.line), int)
        self.assertIsInstance(caught.exception, FabricError)


class PrintTest(unittest.TestCase):
    def test_texts(self):
        self.assertEqual(print_fabric(PAIR), PAIR_TEXT)
        self.assertEqual(print_fabric(NO_OPTIONS), "nodes 2\nchannel 0 1 1")
        self.assertEqual(
            print_fabric(DOUBLE),
            "nodes 3\nchannel 0 1 2\nchannel 0 1 1000\nchannel 1 0 1\nat 0 to 1 : 0 1\nat 1 to 0 : 2",
        )
        self.assertEqual(print_fabric(CHAIN4), (
            "nodes 4\nchannel 0 1 1\nchannel 1 2 1\nchannel 2 3 1\nat 0 to 3 : 0\nat 1 to 3 : 1\nat 2 to 3 : 2"
        ))
        self.assertEqual(print_fabric(MIXED), (
            "nodes 4\nchannel 2 3 1\nchannel 0 2 5\nchannel 1 3 2\nchannel 0 1 4\nchannel 3 0 1\nchannel 0 1 4\n"
            "at 0 to 1 : 3 5\nat 0 to 2 : 1\nat 0 to 3 : 1 3 5\nat 1 to 0 : 2\nat 1 to 3 : 2\nat 2 to 0 : 0\n"
            "at 2 to 3 : 0\nat 3 to 0 : 4\nat 3 to 1 : 4\nat 3 to 2 : 4"
        ))

    def test_nodes_beyond_nine_come_in_the_order_of_numbers(self):
        network, table = greatest()
        lines = print_fabric((network, table)).split("\n")
        self.assertEqual(len(lines), 1 + 400 + 64 * 63)
        self.assertEqual(lines[0], "nodes 64")
        self.assertEqual(lines[400], "channel 15 22 1")
        words = [line.split(" ") for line in lines[401:]]
        pairs = [(int(word[1]), int(word[3])) for word in words]
        self.assertEqual(pairs, [(u, d) for u in range(64) for d in range(64) if u != d])
        self.assertEqual(lines[401], "at 0 to 1 : " + " ".join(str(c) for c in table[0][1]))


class ReadTest(TextCase):
    def test_the_example(self):
        self.assertEqual(read_fabric(PAIR_TEXT), ((2, ((0, 1, 3), (1, 0, 3))), (((), (0,)), ((1,), ()))))

    def test_what_is_printed_is_read(self):
        for fabric in FABRICS + (greatest(),) + tuple(random_fabric(seed) for seed in range(100)):
            text = print_fabric(fabric)
            self.assertEqual(read_fabric(text), fabric)
            self.assertEqual(print_fabric(read_fabric(text)), text)

    def test_a_text_without_options(self):
        self.assertEqual(read_fabric("nodes 64\nchannel 63 0 1000"), ((64, ((63, 0, 1000),)), ((((),) * 64,) * 64)))


class FirstLineTest(TextCase):
    def test_empty_text_and_empty_lines(self):
        self.bad("", 1)
        self.bad("\n", 1)
        self.bad("\n" + PAIR_TEXT, 1)
        self.bad("nodes 2\n", 2)
        self.bad("nodes 2\n\nchannel 0 1 1", 2)
        self.bad("nodes 2\nchannel 0 1 1\n", 3)
        self.bad("nodes 2\nchannel 0 1 1\n\n", 3)
        self.bad(PAIR_TEXT + "\n", 6)
        self.bad(PAIR_TEXT + "\n\n\n", 6)
        self.bad(PAIR_TEXT.replace("\nat 1", "\n\nat 1"), 5)

    def test_one_line(self):
        self.bad("nodes 2", 2)
        self.bad("nodes 64", 2)
        for line in ("nodes", "nodes ", "nodes 1", "nodes 65", "channel 0 1 1", "at 0 to 1 : 0", "x", " ", "2"):
            self.bad(line, 1)

    def test_number_of_nodes(self):
        for word in ("0", "1", "65", "100", "640", "02", "002", "-2", "+2", "2.", "2.0", "2e0", "0x2", "two", "1_0", "", "2 ",
                     " 2", "2 2", "n", "20000000000000000000000", "9" * 4299, "9" * 4301, "9" * 100000, "0" * 100000 + "2"):
            self.bad(f"nodes {word}\nchannel 0 1 1", 1)
        for n in range(2, 65):
            self.assertEqual(read_fabric(f"nodes {n}\nchannel 0 1 1")[0], (n, ((0, 1, 1),)))

    def test_the_word(self):
        for line in ("Nodes 2", "node 2", "nodess 2", " nodes 2", "nodes 2 ", "nodes  2", "2 nodes", "nodes2", "nodes:2", "2"):
            self.bad(f"{line}\nchannel 0 1 1", 1)


class ChannelLineTest(TextCase):
    def test_lines_of_another_form(self):
        for line in ("channel", "channel ", "channel 0", "channel 0 1", "channel 0 1 ", "channel 0 1 1 ", "channel 0 1 1 1",
                     " channel 0 1 1", "channel  0 1 1", "channel 0  1 1", "channel 0 1  1", "channel 0 1 1  ", "Channel 0 1 1",
                     "channels 0 1 1", "channel 0,1,1", "0 1 1", "nodes 2", "", " ", "channel 0 1 one", "channel 0 1 1.0"):
            self.bad(f"nodes 2\n{line}", 2)
            self.bad(f"nodes 2\nchannel 0 1 1\n{line}", 3)
            self.bad(f"nodes 2\n{line}\nchannel 0 1 1", 2)
            self.bad(f"nodes 2\nchannel 1 0 1\nchannel 0 1 1\n{line}\nat 0 to 1 : 1", 4)

    def test_numbers(self):
        for word in ("00", "01", "-1", "+1", "-0", "+0", "1_0", "\t", "x", "9" * 20, "9" * 5000, "0" * 5000, "0" * 5000 + "1"):
            for place in range(3):
                words = ["1", "0", "1"]
                words[place] = word
                self.bad("nodes 2\nchannel 0 1 1\nchannel " + " ".join(words), 3)

    def test_nodes(self):
        for n in (2, 3, 64):
            for u in (0, 1, n - 1, n, n + 1, 64, 400):
                for v in (0, 1, n - 1, n, n + 1, 64, 400):
                    text = f"nodes {n}\nchannel 0 1 1\nchannel {u} {v} 1"
                    if u < n and v < n and u != v:
                        self.assertEqual(read_fabric(text)[0], (n, ((0, 1, 1), (u, v, 1))))
                    else:
                        self.bad(text, 3)

    def test_room(self):
        for room in (1, 2, 9, 10, 999, 1000):
            self.assertEqual(read_fabric(f"nodes 2\nchannel 0 1 {room}")[0][1], ((0, 1, room),))
        for room in (0, 1001, 1002, 9999, 10000, 99999999):
            self.bad(f"nodes 2\nchannel 0 1 {room}", 2)

    def test_number_of_channels(self):
        for count in (1, 399, 400):
            text = "nodes 2" + "\nchannel 1 0 1" * count
            self.assertEqual(len(read_fabric(text)[0][1]), count)
        for count in (401, 402, 500):
            self.bad("nodes 2" + "\nchannel 1 0 1" * count, 402)
        self.bad("nodes 2" + "\nchannel 1 0 1" * 401 + "\nat 1 to 0 : 0", 402)
        self.bad("nodes 2" + "\nchannel 1 0 1" * 400 + "\nchannel 0 0 1", 402)
        self.assertEqual(read_fabric("nodes 2" + "\nchannel 1 0 1" * 400 + "\nat 1 to 0 : 0 399")[1], (((), ()), ((0, 399), ())))
        self.bad("nodes 2" + "\nchannel 1 0 1" * 400 + "\nat 1 to 0 : 0 400", 402)


class KindOfLineTest(TextCase):
    def test_lines_of_a_kind_that_may_not_stand_there(self):
        self.bad("channel 0 1 1\nnodes 2", 1)
        self.bad("at 0 to 1 : 0\nnodes 2\nchannel 0 1 1", 1)
        self.bad("nodes 2\nat 0 to 1 : 0\nchannel 0 1 1", 2)
        self.bad("nodes 2\nat 0 to 1 : 0", 2)
        self.bad("nodes 2\nnodes 2\nchannel 0 1 1", 2)
        self.bad("nodes 2\nchannel 0 1 1\nnodes 2", 3)
        self.bad("nodes 2\nchannel 0 1 1\nat 0 to 1 : 0\nchannel 1 0 1", 4)
        self.bad("nodes 2\nchannel 0 1 1\nchannel 1 0 1\nat 0 to 1 : 0\nchannel 1 0 1\nat 1 to 0 : 1", 5)
        self.bad("nodes 2\nchannel 0 1 1\nat 0 to 1 : 0\nnodes 2", 4)


class CellLineTest(TextCase):
    def test_lines_of_another_form(self):
        for line in ("at", "at 0", "at 0 to", "at 0 to 1", "at 0 to 1 :", "at 0 to 1 : ", "at 0 to 1 :  0", "at 0 to 1 : 0 ",
                     "at 0 to 1  : 0", "at 0  to 1 : 0", "at  0 to 1 : 0", " at 0 to 1 : 0", "at 0 to  1 : 0", "at 0 to 1: 0",
                     "at 0 to 1 0", "at 0 to 1 :0", "At 0 to 1 : 0", "at 0 To 1 : 0", "at 0 to 1 ; 0", "at 0 : 1 to 0",
                     "at 0 to 1 : 0,", "at 0 to 1 : x", "at 0 to 1 : 0 :", "at to 0 1 : 0", "0 to 1 : 0", "at 0 to 1 : 0 0"):
            self.bad(HEAD + line, 5)
            self.bad(HEAD + line + "\nat 1 to 2 : 1", 5)

    def test_numbers(self):
        for word in ("00", "01", "-1", "+1", "-0", "+0", "", "x", "3", "64", "400", "9" * 20, "9" * 5000, "0" * 5000 + "1"):
            self.bad(HEAD + f"at {word} to 1 : 0", 5)
            self.bad(HEAD + f"at 0 to {word} : 0", 5)
            self.bad(HEAD + f"at 0 to 1 : {word}", 5)
            self.bad(HEAD + f"at 0 to 1 : 0 {word}", 5)

    def test_pairs(self):
        for u in range(4):
            for d in range(4):
                text = HEAD + f"at {u} to {d} : {u}"
                if u < 3 and d < 3 and u != d and (u + 1) % 3 == d:
                    self.assertEqual(read_fabric(text)[1], table_of(3, {(u, d): (u,)}))
                else:
                    self.bad(text, 5)

    def test_pairs_that_are_not_greater(self):
        lines = ("at 0 to 1 : 0", "at 0 to 2 : 0", "at 1 to 2 : 1", "at 2 to 0 : 2")
        self.assertTrue(is_fabric(read_fabric(HEAD + "\n".join(lines))))
        for first in range(4):
            for second in range(first + 1):
                self.bad(HEAD + lines[first] + "\n" + lines[second], 6)
                self.bad(HEAD + lines[first] + "\n" + lines[second] + "\n" + lines[3], 6)
        # As words, 10 comes before 2.
        head = "nodes 11\nchannel 0 2 1\nchannel 0 10 1\n"
        self.assertEqual(read_fabric(head + "at 0 to 2 : 0\nat 0 to 10 : 1")[1][0][10], (1,))
        self.bad(head + "at 0 to 10 : 1\nat 0 to 2 : 0", 5)

    def test_options(self):
        head = "nodes 3\nchannel 0 1 1\nchannel 1 0 1\nchannel 0 1 1\nchannel 2 1 1\n"
        for words in ("0", "2", "0 2"):
            self.assertEqual(read_fabric(head + f"at 0 to 1 : {words}")[1][0][1], tuple(int(c) for c in words.split()))
        for words in ("2 0", "0 0", "2 2", "0 2 2", "0 0 2", "0 2 0", "1", "3", "0 1", "0 1 2", "0 2 3", "4", "0 4", "0 2 4", "399"):
            self.bad(head + f"at 0 to 1 : {words}", 6)

    def test_dead_ends(self):
        self.bad(HEAD + "at 0 to 2 : 0", 5)
        self.bad(HEAD + "at 0 to 1 : 0\nat 0 to 2 : 0", 6)
        # The first line with a dead end is named, not the one that makes it.
        self.bad(HEAD + "at 0 to 1 : 0\nat 1 to 0 : 1\nat 2 to 1 : 2", 6)
        self.bad(HEAD + "at 0 to 2 : 0\nat 1 to 0 : 1", 5)
        two = "nodes 3\nchannel 0 1 1\nchannel 0 2 1\nat 0 to 1 : 0\nat 0 to 2 :"
        self.bad(two + " 0 1", 5)
        self.bad(two + " 0", 5)
        self.assertEqual(read_fabric(two + " 1")[1][0], ((), (0,), (1,)))

    def test_several_faults(self):
        # A line of a wrong form comes before a dead end, wherever it stands.
        self.bad(HEAD + "at 0 to 2 : 0\nat 2 to 0 : 1", 6)
        self.bad(HEAD + "at 0 to 2 : 0\n", 6)
        self.bad(HEAD + "at 0 to 2 : 0\nat 0 to 2 : 0", 6)
        self.bad(HEAD + "at 0 to 2 : 0\nchannel 0 1 1", 6)
        self.bad("nodes 1\nchannel 0 0 0\nx", 1)
        self.bad("nodes 2\nchannel 0 0 0\nx", 2)
        self.bad("nodes 2\nchannel 0 1 1\nx\nchannel 0 0 0", 3)
        self.bad("nodes 3\nchannel 0 1 1\nat 0 to 1 : 1\nat 0 to 2 : 0\nx", 3)
        self.bad("nodes 3\nchannel 0 1 1\nat 0 to 2 : 0\nat 0 to 1 : 1\nx", 4)


class LongTest(TextCase):
    def test_long_lines(self):
        self.bad("nodes " * 200000, 1)
        self.bad("x" * 10 ** 6, 1)
        self.bad(" " * 10 ** 6, 1)
        self.bad("nodes 2\nchannel" + " 1" * 500000, 2)
        self.bad("nodes 2\nchannel 0 1 1\nat 0 to 1 :" + " 0" * 500000, 3)
        self.bad("nodes 2\nchannel 0 1 1\nat 0 to 1 : " + " ".join(str(c) for c in range(200000)), 3)
        self.bad("nodes 2\nchannel 0 1 1\n" + " " * 10 ** 6, 3)

    def test_many_digits(self):
        for digits in ("1" * 10 ** 6, "0" * 10 ** 6):
            self.bad(f"nodes {digits}", 1)
            self.bad(f"nodes 2\nchannel 0 1 {digits}", 2)
            self.bad(f"nodes 2\nchannel 0 1 1\nat {digits} to 1 : 0", 3)
            self.bad(f"nodes 2\nchannel 0 1 1\nat 0 to {digits} : 0", 3)
            self.bad(f"nodes 2\nchannel 0 1 1\nat 0 to 1 : 0 {digits}", 3)

    def test_many_lines(self):
        self.bad("\n" * 10 ** 6, 1)
        self.bad("nodes 2" + "\nchannel 0 1 1" * 10 ** 5, 402)
        self.bad("nodes 2\nchannel 0 1 1" + "\nat 0 to 1 : 0" * 10 ** 5, 4)


class MutationTest(TextCase):
    def check(self, text):
        line = wrong_line(text)
        if line is not None:
            self.bad(text, line)
            return 1
        fabric = read_fabric(text)
        self.assertTrue(is_fabric(fabric))
        self.assertEqual(print_fabric(fabric), text)
        return 0

    def test_one_character_is_another(self):
        bad = total = 0
        for fabric in FABRICS:
            text = print_fabric(fabric)
            for at in range(len(text) + 1):
                for char in ("", "0", "1", "3", " ", "\n", "-", "x"):
                    bad += self.check(text[:at] + char + text[at + 1:])
                    bad += self.check(text[:at] + char + text[at:])
                    total += 2
        self.assertTrue(total // 2 < bad < total)

    def test_lines_that_are_left_out_doubled_or_exchanged(self):
        for seed in range(300):
            rng = random.Random(seed)
            lines = print_fabric(random_fabric(seed % 60)).split("\n")
            for _ in range(rng.randint(1, 2)):
                k, at = rng.randrange(len(lines)), rng.randrange(len(lines))
                lines[k:k + 1] = rng.choice(([], [lines[k], lines[k]], [lines[at]], lines[k:k + 2][::-1]))
                lines = lines or [""]
            self.check("\n".join(lines))

    def test_tables_with_dead_ends(self):
        for seed in range(150):
            network = random_network(seed)
            table = random_table(network, seed)
            text = print_fabric((network, table))
            self.assertEqual(self.check(text), 1 if dead_ends(network, table) else 0)

    def test_one_dead_end_in_a_great_text(self):
        network, table = greatest()
        wide = (network, with_option(empty_table(network), 5, 60, table[5][60][0]))
        self.bad(print_fabric(wide), 402)


if __name__ == "__main__":
    unittest.main()
