"""Point 28: machines and tellings as texts (with points 1, 2 and 4 as far as they speak of
these)."""

import unittest
from random import Random

from normalwords.errors import InvalidText
from normalwords.frees import free_group
from normalwords.machines import Machine
from normalwords.rounds import mirrors, round_group, whole_numbers
from normalwords.tables import table_group
from normalwords.tellings import Telling
from normalwords.texts import read_machine, read_telling, write_machine, write_telling
from made import TABLES
from reference import random_machine
from samples import GROUPS, PLACES, group_sample, places_sample

NO = None
MACHINE = Machine(2, [(1, NO), (0, 2), (NO, NO)], [1, 0, 0])
MACHINE_TEXT = "machine 2 3\n+ 1 .\n- 0 2\n- . ."
ONE_TEXT = "telling 0\nmachine 1 1\n+ .\nmachine 3 1\n+ . . ."
TWO_TEXT = "telling 0\nmachine 1 2\n+ 1\n+ .\nmachine 3 2\n- . 1 1\n+ . . ."


def line_starts(text):
    """Where the lines of a text begin."""
    return [0] + [at + 1 for at, sign in enumerate(text) if sign == "\n"]


class Texts(unittest.TestCase):
    def check_wrong(self, read, text, at):
        for call in (lambda: read(text), lambda: read(text=text)):
            with self.assertRaises(InvalidText, msg=repr(text)) as caught:
                call()
            self.assertEqual((caught.exception.text, caught.exception.at), (text, at), repr(text))

    def wrong_line(self, read, text, number, line):
        """That the text is wrong at a line, if this is put in its place."""
        lines = text.split("\n")
        self.check_wrong(read, "\n".join(lines[:number] + [line] + lines[number + 1:]), line_starts(text)[number])


class Machines(Texts):
    def test_texts(self):
        self.assertEqual(write_machine(MACHINE), MACHINE_TEXT)
        self.assertEqual(read_machine(MACHINE_TEXT), MACHINE)
        self.assertEqual(write_machine(machine=Machine(1, [(NO,)], [0])), "machine 1 1\n- .")
        self.assertEqual(read_machine(text="machine 1 1\n+ 0"), Machine(1, [(0,)], [1]))

    def test_random_machines(self):
        random = Random(191)
        for _ in range(100):
            machine = random_machine(random, random.randint(1, 6), random.randint(1, 15), random.choice((0, 0.3, 1)))
            text = write_machine(machine)
            self.assertIsInstance(text, str)
            self.assertEqual(read_machine(text), machine)
            self.assertEqual(write_machine(read_machine(text)), text)

    def test_great_machines(self):
        random = Random(192)
        for letters, states in ((24, 40), (48, 40), (1, 1000), (4, 300), (24, 1), (48, 1), (1, 3400)):
            machine = random_machine(random, letters, states)
            text = write_machine(machine)
            self.assertEqual(len(text.split("\n")), states + 1)
            self.assertEqual(read_machine(text), machine)

    def test_machines_with_many_states_of_which_few_are_met(self):
        text = "machine 1 2000\n" + "\n".join(["+ ."] * 2000)
        self.assertEqual(write_machine(read_machine(text)), text)

    def test_wrong_first_lines(self):
        for line in ("", "machine", "machine 2", "machine 2 3 3", "machine  2 3", "machine 2  3", " machine 2 3",
                     "machine 2 3 ", "Machine 2 3", "machine 02 3", "machine 2 03", "machine 0 3", "machine 49 3",
                     "machine 2 0", "machine -2 3", "machine +2 3", "machine 2 3.", "machine . 3", "machine 2 .",
                     "machine 2 1000000", "machine 2 0000003", "machine 1000000 3", "machine\t2 3", "machine 2 3\r",
                     "telling 2 3", "machine2 3", "machine 2,3", "+ 1 .", "machine \u0662 3", "machine 2 \u00b3",
                     "machine two 3", "machine 1_0 3", "machine 99999999999999999999 3", "machine 2 3\x0b"):
            self.wrong_line(read_machine, MACHINE_TEXT, 0, line)

    def test_wrong_lines_within(self):
        for line in ("", "-", "- 0", "- 0 2 .", "- 0 3", "- 3 0", "- 0 02", "- 00 2", "- 0 2 ", " - 0 2", "-  0 2", "- 0  2",
                     "-0 2", "* 0 2", "1 0 2", "0 0 2", "- 0 -1", "- 0 None", "- 0 ..", "- 0 +", "- 0 2\r", "-\t0 2",
                     "- 0 \u0662", "- 0 1000000", "- 0 000002", ". 0 2", "+- 0 2", "- 0 2,", "machine 2 3", "- 0 1\x0b"):
            for number in (1, 2, 3):
                self.wrong_line(read_machine, MACHINE_TEXT, number, line)

    def test_an_empty_text(self):
        self.check_wrong(read_machine, "", 0)
        self.check_wrong(read_machine, "\n", 0)
        self.check_wrong(read_machine, "\n" + MACHINE_TEXT, 0)

    def test_lines_lacking(self):
        for end in (line_starts(MACHINE_TEXT)[1:]):
            text = MACHINE_TEXT[:end - 1]
            self.check_wrong(read_machine, text, len(text))
            # A line feed at the end of it is an empty line.
            self.check_wrong(read_machine, text + "\n", len(text) + 1)
        self.check_wrong(read_machine, "machine 1 999999", 16)
        self.check_wrong(read_machine, "machine 2 999999\n+ 999998 999997\n- . 5", 38)
        self.check_wrong(read_machine, "machine 2 999999\n+ 999999 999997\n- . 5", 17)

    def test_lines_too_many(self):
        size = len(MACHINE_TEXT)
        for more in ("\n", "\n\n", "\n- . .", "\n+ 1 .\n", "\nmachine 2 3", "\nmachine 2 3\n+ 1 .\n- 0 2\n- . .", "\n "):
            self.check_wrong(read_machine, MACHINE_TEXT + more, size + 1)
        self.check_wrong(read_machine, "machine 2 2\n+ 1 .\n- 0 1\n- . .", 24)

    def test_the_first_wrong_line_is_told(self):
        self.check_wrong(read_machine, "machine 2 3\n+ 1 .\n- 0 9\n- . . .", 18)
        self.check_wrong(read_machine, "machine 2 3\n+ 1 .\n- 0 9", 18)
        self.check_wrong(read_machine, "machine 2 3\n+ 1\n", 12)
        self.check_wrong(read_machine, "machine 0 3\n+", 0)

    def test_other_line_ends(self):
        self.check_wrong(read_machine, MACHINE_TEXT.replace("\n", "\r\n"), 0)
        self.check_wrong(read_machine, MACHINE_TEXT.replace("\n", "\r"), 0)
        self.check_wrong(read_machine, MACHINE_TEXT.replace("\n", "\u2028"), 0)
        self.check_wrong(read_machine, MACHINE_TEXT + "\r\n", line_starts(MACHINE_TEXT)[-1])
        self.check_wrong(read_machine, MACHINE_TEXT + "\r", line_starts(MACHINE_TEXT)[-1])

    def test_blanks_at_ends(self):
        for number, line in enumerate(MACHINE_TEXT.split("\n")):
            for wrong in (line + " ", " " + line, line.replace(" ", "  ", 1), line + "\t"):
                self.wrong_line(read_machine, MACHINE_TEXT, number, wrong)

    def test_one_sign_exchanged(self):
        random = Random(193)
        texts = [MACHINE_TEXT] + [write_machine(random_machine(random, 2, 12)) for _ in range(3)]
        for text in texts:
            for at in range(len(text)):
                for sign in " .+-0129a\n":
                    changed = text[:at] + sign + text[at + 1:]
                    try:
                        self.assertEqual(write_machine(read_machine(changed)), changed)
                    except InvalidText as error:
                        self.assertEqual(error.text, changed)
                        self.assertIn(error.at, line_starts(changed) + [len(changed)])


class Tellings(Texts):
    def test_texts(self):
        self.assertEqual(write_telling(telling=table_group(TABLES["1"], (0,)).telling), ONE_TEXT)
        self.assertEqual(read_telling(text=ONE_TEXT), table_group(TABLES["1"], (0,)).telling)
        self.assertEqual(write_telling(table_group(TABLES["2"], (1,)).telling), TWO_TEXT)
        self.assertEqual(read_telling(TWO_TEXT), table_group(TABLES["2"], (1,)).telling)
        lines = write_telling(whole_numbers().telling).split("\n")
        self.assertEqual(lines[:6], ["telling 1 0", "machine 2 3", "+ 1 2", "+ 1 .", "+ . 2", "machine 8 4"])

    def test_all_samples(self):
        tellings = [group_sample(name).telling for name in GROUPS] + [places_sample(name).telling for name in PLACES]
        for telling in tellings + [made.telling for made in (mirrors(), free_group(2), round_group(8))]:
            text = write_telling(telling)
            self.assertEqual(read_telling(text), telling)
            self.assertEqual(write_telling(read_telling(text)), text)

    def test_tellings_of_nothing(self):
        random = Random(194)
        for undo in ((0,), (1, 0), (0, 1), (0, 2, 1), (1, 0, 3, 2), (5, 4, 3, 2, 1, 0)):
            size = (len(undo) + 1) ** 2 - 1
            telling = Telling(undo, random_machine(random, len(undo), 12),
                              [random_machine(random, size, random.randint(1, 40)) for _ in undo])
            self.assertEqual(read_telling(write_telling(telling)), telling)

    def test_wrong_first_lines(self):
        for line in ("", "telling", "telling ", "telling 1", "telling 00", "telling  0", "telling 0 ",
                     " telling 0", "Telling 0", "telling -0", "telling .", "telling 0,1", "telling 1 0 2 3 4 5 6",
                     "telling 1 2 0", "telling 0 0", "machine 1 2", "telling 0\r", "telling 0000000", "telling \u0660"):
            self.wrong_line(read_telling, TWO_TEXT, 0, line)

    def test_machines_over_other_letters(self):
        # The first line is right, and so the machines must fit to it.
        lines = TWO_TEXT.split("\n")
        self.check_wrong(read_telling, "\n".join(["telling 0 1"] + lines[1:]), 12)
        self.wrong_line(read_telling, TWO_TEXT, 1, "machine 2 2")
        self.wrong_line(read_telling, TWO_TEXT, 1, "machine 3 2")
        self.wrong_line(read_telling, TWO_TEXT, 4, "machine 1 2")
        self.wrong_line(read_telling, TWO_TEXT, 4, "machine 8 2")
        text = write_telling(whole_numbers().telling)
        starts = [at for at, line in zip(line_starts(text), text.split("\n")) if line.startswith("machine")]
        self.check_wrong(read_telling, text.replace("machine 8 4\n- 1 . 2", "machine 3 4\n- 1 . 2"), starts[2])

    def test_wrong_lines_of_machines(self):
        for line in ("", "machine", "machine 1", "machine 1 0", "machine 01 2", "machine 1 2 ", "machine 1  2", "+ 1",
                     "machine 1 1000000", "telling 0"):
            self.wrong_line(read_telling, TWO_TEXT, 1, line)
        for line in ("", "+", "+ 2", "+ 01", "+  1", "+ 1 ", "+ 1 .", "1", "* 1", "machine 1 2"):
            self.wrong_line(read_telling, TWO_TEXT, 2, line)
            self.wrong_line(read_telling, TWO_TEXT, 3, line)
        for line in ("", "-", "- . 1", "- . 1 1 1", "- . 2 1", "- . 1 1\r", "machine 3 2"):
            self.wrong_line(read_telling, TWO_TEXT, 5, line)
            self.wrong_line(read_telling, TWO_TEXT, 6, line)

    def test_lines_lacking(self):
        text = write_telling(mirrors().telling)
        for end in line_starts(text)[1:]:
            self.check_wrong(read_telling, text[:end - 1], end - 1)
            self.check_wrong(read_telling, text[:end], end)

    def test_lines_too_many(self):
        for text in (ONE_TEXT, TWO_TEXT, write_telling(whole_numbers().telling)):
            for more in ("\n", "\n\n", "\n+ .", "\nmachine 3 1\n+ . . .", "\ntelling 0", "\n "):
                self.check_wrong(read_telling, text + more, len(text) + 1)
        # A line too many within is where a machine should begin.
        lines = TWO_TEXT.split("\n")
        self.check_wrong(read_telling, "\n".join(lines[:4] + ["+ ."] + lines[4:]), line_starts(TWO_TEXT)[4])

    def test_a_line_left_out_within(self):
        lines = TWO_TEXT.split("\n")
        for number in range(1, 6):
            text = "\n".join(lines[:number] + lines[number + 1:])
            starts = line_starts(text)
            # What comes in the place of the line that is left out may stand there.
            at = {1: starts[1], 2: starts[3], 3: starts[3], 4: starts[4], 5: len(text)}[number]
            self.check_wrong(read_telling, text, at)

    def test_an_empty_text_and_other_line_ends(self):
        self.check_wrong(read_telling, "", 0)
        self.check_wrong(read_telling, "\n", 0)
        self.check_wrong(read_telling, TWO_TEXT.replace("\n", "\r\n"), 0)
        self.check_wrong(read_telling, TWO_TEXT.replace("\n", "\r"), 0)
        self.check_wrong(read_telling, MACHINE_TEXT, 0)
        self.check_wrong(read_machine, TWO_TEXT, 0)

    def test_one_sign_exchanged(self):
        for text in (ONE_TEXT, TWO_TEXT):
            for at in range(len(text)):
                for sign in " .+-0123a\n":
                    changed = text[:at] + sign + text[at + 1:]
                    try:
                        self.assertEqual(write_telling(read_telling(changed)), changed)
                    except InvalidText as error:
                        self.assertEqual(error.text, changed)
                        self.assertIn(error.at, line_starts(changed) + [len(changed)])

    def test_texts_of_twenty_thousand_signs(self):
        random = Random(195)
        telling = Telling((1, 0, 3, 2), random_machine(random, 4, 12),
                          [random_machine(random, 24, 62, 0.2) for _ in range(4)])
        text = write_telling(telling)
        self.assertGreater(len(text), 15000)
        self.assertEqual(read_telling(text), telling)
        self.check_wrong(read_telling, text + "\n", len(text) + 1)


if __name__ == "__main__":
    unittest.main()
