"""Points 1, 4 and 5: piled, unpiled and pile_stepped."""

import unittest

from downstair.piles import pile_stepped, piled, unpiled
from downstair.tapes import begun, stepped
from tests.samples import (
    BEAVER, LARGE, MACHINES, MIDDLE, RUNNER, STAND_KINDS,
    figures, kinds_of_stand, made_machine, pile_of, stands, tape_stepped,
)

NUMBERS = (0, 1, 2, 3, 4, 5, 7, 8, 9, 15, 16, 17, 26, 27, 63, 64, 255, 256, 10 ** 9, 10 ** 20, 3 ** 90 + 5, 4 ** 200)


class PiledTest(unittest.TestCase):
    def test_the_first_sign_counts_one_and_each_next_as_many_times_more(self):
        for signs in (2, 3, 4):
            machine = made_machine(2, signs, 3)
            self.assertEqual(piled(machine, (1, (1,), 0, (0, 1))), (1, 0, 1, signs))
            self.assertEqual(piled(machine, (0, (0, 0, 1), 1, (1, 1))), (0, 1, signs * signs, 1 + signs))
        self.assertEqual(piled(MIDDLE, (2, (2, 0, 1), 2, (1, 2))), (2, 2, 11, 7))
        self.assertEqual(piled(LARGE, (5, (3, 2, 1), 3, (0, 3))), (5, 3, 27, 12))

    def test_empty_sides(self):
        self.assertEqual(piled(RUNNER, (0, (), 1, ())), (0, 1, 0, 0))
        self.assertEqual(piled(RUNNER, (0, (), 0, (1,))), (0, 0, 0, 1))
        self.assertEqual(piled(RUNNER, (0, (1,), 0, ())), (0, 0, 1, 0))
        self.assertEqual(unpiled(RUNNER, (0, 1, 0, 0)), (0, (), 1, ()))
        self.assertEqual(unpiled(RUNNER, (0, 0, 0, 1)), (0, (), 0, (1,)))
        self.assertEqual(unpiled(RUNNER, (0, 0, 1, 0)), (0, (1,), 0, ()))

    def test_sides_of_twelve_signs(self):
        for signs in (2, 3, 4):
            machine = made_machine(4, signs, 5)
            top = signs - 1
            for left, right in (
                ((top,) * 12, (0,) * 11 + (1,)),
                ((0,) * 11 + (top,), (top,) * 12),
                (tuple((place * 2 + 1) % signs for place in range(11)) + (1,), (1,) * 12),
            ):
                stand = (3, left, top, right)
                pile = (3, top, figures(signs, left), figures(signs, right))
                self.assertEqual(piled(machine, stand), pile)
                self.assertEqual(unpiled(machine, pile), stand)
            self.assertEqual(piled(machine, (0, (top,) * 12, 0, ())), (0, 0, signs ** 12 - 1, 0))

    def test_from_a_stand_and_back(self):
        for machine in MACHINES:
            seen = set()
            for stand in stands(machine, 2):
                before = repr((machine, stand))
                pile = piled(machine, stand)
                self.assertEqual(pile, pile_of(machine, stand))
                self.assertEqual((type(pile), {type(part) for part in pile}), (tuple, {int}))
                self.assertEqual(unpiled(machine, pile), stand)
                self.assertEqual(repr((machine, stand)), before)
                seen.add(pile)
            self.assertEqual(len(seen), len(stands(machine, 2)))

    def test_from_a_pile_and_back(self):
        for machine in MACHINES:
            rooms, signs, rules = machine
            for low in NUMBERS:
                for high in NUMBERS:
                    pile = (rooms - 1, signs - 1, low, high)
                    before = repr((machine, pile))
                    stand = unpiled(machine, pile)
                    self.assertEqual(kinds_of_stand(stand), STAND_KINDS)
                    self.assertTrue(all(0 <= sign < signs for sign in stand[1] + stand[3]))
                    self.assertNotEqual(stand[1][-1:], (0,))
                    self.assertNotEqual(stand[3][-1:], (0,))
                    self.assertEqual(piled(machine, stand), pile)
                    self.assertEqual(repr((machine, pile)), before)

    def test_each_small_pile_has_a_stand_of_its_own(self):
        for signs in (2, 3, 4):
            machine = made_machine(1, signs, 3)
            found = {unpiled(machine, (0, 0, low, high)) for low in range(40) for high in range(40)}
            self.assertEqual(len(found), 1600)

    def test_sizes_are_told_apart(self):
        stand = (0, (1, 1), 0, (0, 1))
        for turn in range(2):
            for signs in (2, 3, 4):
                machine = made_machine(1, signs, 3)
                self.assertEqual(piled(machine, stand), (0, 0, 1 + signs, signs))
                self.assertEqual(unpiled(machine, (0, 0, 1 + signs, signs)), stand)

    def test_beyond_the_bounds_nothing_is_refused(self):
        machine = (7, 5, (None,) * 35)
        stand = (6, (4, 3), 4, (1,) * 13)
        self.assertEqual(piled(machine, stand), (6, 4, 19, (5 ** 13 - 1) // 4))
        self.assertEqual(unpiled(machine, (6, 4, 19, (5 ** 13 - 1) // 4)), stand)


class PileSteppedTest(unittest.TestCase):
    def test_to_the_left(self):
        machine = (2, 3, ((2, 0, 1), (0, 0, 0), None, None, None, None))
        self.assertEqual(pile_stepped(machine, (0, 0, 7, 4)), (1, 1, 2, 14))
        self.assertEqual(pile_stepped(machine, (0, 1, 0, 0)), (0, 0, 0, 0))
        self.assertEqual(pile_stepped(machine, (0, 0, 0, 0)), (1, 0, 0, 2))

    def test_to_the_right(self):
        machine = (2, 3, ((2, 1, 1), (0, 1, 0), None, None, None, None))
        self.assertEqual(pile_stepped(machine, (0, 0, 4, 7)), (1, 1, 14, 2))
        self.assertEqual(pile_stepped(machine, (0, 1, 0, 0)), (0, 0, 0, 0))
        self.assertEqual(pile_stepped(machine, (0, 0, 0, 0)), (1, 0, 2, 0))

    def test_none_at_an_end(self):
        self.assertIsNone(pile_stepped(RUNNER, (0, 1, 0, 0)))
        self.assertIsNone(pile_stepped(RUNNER, (0, 1, 5, 10 ** 20)))
        self.assertIsNone(pile_stepped(BEAVER, (3, 0, 1, 1)))

    def test_it_belongs_to_the_stand_behind_a_step(self):
        for machine in MACHINES:
            for stand in stands(machine, 2):
                self.belongs(machine, stand)

    def test_it_belongs_to_the_stand_for_long_sides(self):
        for signs in (2, 3, 4):
            machine = made_machine(6, signs, 7)
            for length in (11, 12, 13):
                left = tuple((place + 1) % signs for place in range(length - 1)) + (1,)
                right = tuple((place * 3 + 2) % signs for place in range(length - 1)) + (signs - 1,)
                for room in range(6):
                    for under in range(signs):
                        self.belongs(machine, (room, left, under, right))

    def belongs(self, machine, stand):
        pile = pile_of(machine, stand)
        before = repr((machine, pile))
        after = pile_stepped(machine, pile)
        self.assertEqual(repr((machine, pile)), before)
        expected = tape_stepped(machine, stand)
        if expected is None:
            self.assertIsNone(after)
            self.assertIsNone(stepped(machine, stand))
            return
        self.assertEqual(after, pile_of(machine, expected))
        self.assertEqual(after, piled(machine, stepped(machine, stand)))
        self.assertEqual(unpiled(machine, after), expected)
        self.assertEqual((type(after), {type(part) for part in after}), (tuple, {int}))

    def test_great_numbers(self):
        for machine in MACHINES:
            rooms, signs, rules = machine
            for room in range(rooms):
                for under in range(signs):
                    for low, high in ((10 ** 20, 3 ** 90 + 5), (4 ** 200, 0), (0, 4 ** 200 + 1)):
                        pile = (room, under, low, high)
                        expected = tape_stepped(machine, unpiled(machine, pile))
                        after = pile_stepped(machine, pile)
                        self.assertEqual(after, None if expected is None else pile_of(machine, expected))

    def test_step_by_step_beside_the_stand(self):
        stand = begun(())
        pile = piled(BEAVER, stand)
        for step in range(21):
            stand = stepped(BEAVER, stand)
            pile = pile_stepped(BEAVER, pile)
            self.assertEqual(pile, pile_of(BEAVER, stand))
        self.assertIsNone(pile_stepped(BEAVER, pile))

    def test_machines_of_one_size_are_told_apart(self):
        other = (1, 2, ((0, 0, 0), None))
        for turn in range(3):
            self.assertEqual(pile_stepped(RUNNER, (0, 0, 3, 5)), (0, 1, 7, 2))
            self.assertEqual(pile_stepped(other, (0, 0, 3, 5)), (0, 1, 1, 10))
