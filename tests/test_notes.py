"""Points 1 and 13: shown and read."""

import re
import unittest

from downstair.errors import NoMachine, NoNote, StairError
from downstair.notes import read, shown
from tests.samples import BEAVER, LARGE, MACHINES, NEVER_ENDING, RUNNER, made_machine

# Every sign that a text may hold, and the one that it may not.
SIGNS = [chr(code) for code in range(32, 127)]
FORM = re.compile(r"([0-9]) ([0-9]):((?: (?:-|[0-9][<>][0-9]))*)", re.ASCII)
NOTES = (
    ("1 2: 1>0 -", RUNNER),
    ("1 2: 1<0 0>0", NEVER_ENDING),
    ("4 2: 1>1 1>3 1<1 0>2 1<2 1<0 - -", BEAVER),
    ("1 4: - - - -", (1, 4, (None,) * 4)),
    ("2 3: 2<1 - 0>0 - 1>1 2>0", (2, 3, ((2, 0, 1), None, (0, 1, 0), None, (1, 1, 1), (2, 1, 0)))),
    ("6 4:" + " 3>5" * 24, (6, 4, ((3, 1, 5),) * 24)),
    ("6 2:" + " -" * 12, (6, 2, (None,) * 12)),
)


def machine_of(text):
    """The machine that a text writes, or None, found without the program."""
    found = FORM.fullmatch(text)
    if found is None:
        return None
    rooms, signs = int(found[1]), int(found[2])
    rules = tuple(
        None if word == "-" else (int(word[0]), "<>".index(word[1]), int(word[2])) for word in found[3].split()
    )
    if not (1 <= rooms <= 6 and 2 <= signs <= 4 and len(rules) == rooms * signs):
        return None
    if any(rule is not None and not (rule[0] < signs and rule[2] < rooms) for rule in rules):
        return None
    return (rooms, signs, rules)


class ShownTest(unittest.TestCase):
    def test_notes_written_out(self):
        for text, machine in NOTES:
            before = repr(machine)
            self.assertEqual(shown(machine), text)
            self.assertIs(type(shown(machine)), str)
            self.assertEqual(repr(machine), before)

    def test_every_rule(self):
        for rooms, signs in ((1, 2), (3, 3), (6, 4)):
            for write in range(signs):
                for way, mark in ((0, "<"), (1, ">")):
                    for room in range(rooms):
                        machine = (rooms, signs, ((write, way, room),) + (None,) * (rooms * signs - 1))
                        text = f"{rooms} {signs}: {write}{mark}{room}" + " -" * (rooms * signs - 1)
                        self.assertEqual(shown(machine), text)
                        self.assertEqual(read(text), machine)

    def test_a_machine_beyond_the_bounds_is_not_refused(self):
        self.assertEqual(shown((7, 5, (None,) * 34 + ((4, 1, 6),))), "7 5:" + " -" * 34 + " 4>6")


class ReadTest(unittest.TestCase):
    def refused(self, text):
        # Asked twice: a refusal is not forgotten.
        for time in ("first", "second"):
            with self.subTest(text=text, time=time):
                with self.assertRaises(NoNote) as caught:
                    read(text)
                self.assertIsInstance(caught.exception, StairError)
                self.assertIsInstance(caught.exception, ValueError)
                self.assertNotIsInstance(caught.exception, NoMachine)

    def as_it_should(self, text):
        machine = machine_of(text)
        if machine is None:
            self.refused(text)
        else:
            self.assertEqual(read(text), machine)
        return machine is not None

    def test_notes_written_out(self):
        for text, machine in NOTES:
            self.assertEqual(machine_of(text), machine)
            self.assertEqual(read(text), machine)

    def test_there_and_back_again(self):
        for machine in MACHINES:
            self.assertEqual(read(shown(machine)), machine)
        for rooms in range(1, 7):
            for signs in (2, 3, 4):
                for gap in (1, 2, 3, 5, 30):
                    machine = made_machine(rooms, signs, gap)
                    self.assertEqual(machine_of(shown(machine)), machine)
                    self.assertEqual(read(shown(machine)), machine)

    def test_kinds(self):
        rooms, signs, rules = read(shown(LARGE))
        self.assertEqual((type(read(shown(LARGE))), type(rooms), type(signs), type(rules)), (tuple, int, int, tuple))
        for rule in rules:
            if rule is not None:
                self.assertEqual((type(rule), [type(part) for part in rule]), (tuple, [int] * 3))

    def test_the_empty_text_and_little_ones(self):
        self.refused("")
        for sign in SIGNS:
            self.refused(sign)
            for other in SIGNS:
                self.refused(sign + other)
        for text in ("1", "1 2", "1 2:", "1 2: -", "1 2: ", "1 2: - ", "1 2:- -", ":", " :", "1:", "1 :", " 2: - -"):
            self.refused(text)

    def test_blanks(self):
        for text in (
            " 1 2: 1>0 -", "1 2: 1>0 - ", " 1 2: 1>0 - ", "1  2: 1>0 -", "1 2:  1>0 -", "1 2: 1>0  -", "1 2 : 1>0 -",
            "12: 1>0 -", "1 2:1>0 -", "1 2: 1>0-", "1 2: 1 >0 -", "1 2: 1> 0 -", "1 2: 1>0 -  ", "  1 2: 1>0 -",
            "1 2: 1>0 -\n", "\n1 2: 1>0 -", "1\t2: 1>0 -", "1 2: 1>0\n-",
        ):
            self.refused(text)

    def test_one_sign_left_out(self):
        for text, machine in NOTES:
            for place in range(len(text)):
                self.assertFalse(self.as_it_should(text[:place] + text[place + 1:]))

    def test_one_sign_put_in(self):
        for text, machine in NOTES[:3]:
            for place in range(len(text) + 1):
                for sign in SIGNS:
                    self.assertFalse(self.as_it_should(text[:place] + sign + text[place:]))

    def test_one_sign_set_otherwise(self):
        for text, machine in NOTES[:5]:
            taken = 0
            for place in range(len(text)):
                for sign in SIGNS:
                    taken += self.as_it_should(text[:place] + sign + text[place + 1:])
            # Each sign set as it is, and some others.
            self.assertGreaterEqual(taken, len(text))

    def test_two_signs_exchanged(self):
        for text, machine in NOTES[:5]:
            for place in range(len(text) - 1):
                self.as_it_should(text[:place] + text[place + 1] + text[place] + text[place + 2:])

    def test_figures_too_great_and_too_small(self):
        for text in (
            "0 2:", "0 2: - -", "7 2:" + " -" * 14, "9 2:" + " -" * 18, "8 4:" + " -" * 32,
            "1 0:", "1 1: -", "1 1: 0>0", "1 5: - - - - -", "2 9:" + " -" * 18, "0 0:", "6 5:" + " -" * 30,
            "1 2: 2>0 -", "1 2: - 9<0", "1 2: 1>1 -", "2 2: 1>2 - - -", "3 3:" + " -" * 8 + " 3<0",
            "3 3:" + " -" * 8 + " 0<3", "6 4: 4>0" + " -" * 23, "6 4: 3>6" + " -" * 23,
        ):
            self.refused(text)

    def test_numbers_of_two_figures(self):
        for text in (
            "01 2: 1>0 -", "1 02: 1>0 -", "10 2:" + " -" * 20, "1 12:" + " -" * 12, "1 2: 01>0 -", "1 2: 1>00 -",
            "1 2: 10>0 -", "1 2: 1>10 -", "-1 2: - -", "+1 2: - -", "1 2: -1>0 -", "1 2: 1>+0 -", "1_0 2: - -",
        ):
            self.refused(text)

    def test_too_many_and_too_few_rules(self):
        for rooms in range(1, 7):
            for signs in (2, 3, 4):
                for rule in (" -", " 1>0"):
                    start, many = f"{rooms} {signs}:", rooms * signs
                    self.assertTrue(self.as_it_should(start + rule * many))
                    for wrong in (0, 1, many - 1, many + 1, 2 * many):
                        if wrong != many:
                            self.refused(start + rule * wrong)

    def test_rules_in_another_form(self):
        for rule in (
            "--", "1>", ">0", "1-0", "<", ">", "1<>0", "1>0>0", "0>1>0", "None", "1=0", "->0", "1>-", "1", "10",
        ):
            self.refused(f"1 2: {rule} -")
            self.refused(f"1 2: - {rule}")
        for text in (
            "1 2; 1>0 -", "1 2 1>0 -", "1 2:: 1>0 -", "1, 2: 1>0 -", "1 2: 1>0 - # end", "1 2: 1>0 -:", "1: 2: - -",
        ):
            self.refused(text)

    def test_texts_of_two_hundred_signs_and_more(self):
        for text in (
            " " * 200, "-" * 200, "1" * 200, ":" * 200, "~" * 200, " -" * 100, "- " * 100, "1 2: 1>0 -" * 20,
            "6 4:" + " -" * 98, "6 4:" + " 3>5" * 49, "1 2: 1>0 -" + " " * 190, " " * 190 + "1 2: 1>0 -",
            "1 2: " + "1" * 190 + ">0 -", "9" * 190 + " 2: 1>0 -", "1 2: 1>0 -" + "x" * 300, "9" * 5000 + " 2: - -",
        ):
            self.refused(text)

    def test_figures_that_are_no_plain_ones(self):
        for sign in ("\u00b9", "\u00b2", "\u0661", "\u0967", "\uff11"):
            for text in (f"{sign} 2: 1>0 -", f"1 {sign}: 1>0 -", f"1 2: {sign}>0 -", f"1 2: 1>{sign} -"):
                self.refused(text)

    def test_a_refusal_leaves_later_answers_alone(self):
        for turn in range(3):
            self.refused("1 2: 1>1 -")
            self.assertEqual(read("1 2: 1>0 -"), RUNNER)
            self.refused("1 2: 1>0 -%")
            self.assertEqual(shown(RUNNER), "1 2: 1>0 -")
