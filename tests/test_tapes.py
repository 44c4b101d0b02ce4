"""Points 1 to 4: looked, begun, stepped and gone."""

import unittest

from downstair.errors import NoMachine, NoNote, StairError
from downstair.tapes import begun, gone, looked, stepped
from tests.samples import (
    BEAVER, LARGE, MACHINES, MIDDLE, NEVER_ENDING, RUNNER, STAND_KINDS,
    kinds_of_stand, stands, tape_stepped,
)

GREAT = 10 ** 20


class LookedTest(unittest.TestCase):
    def refused(self, machine):
        before = repr(machine)
        # Asked twice: a refusal is not forgotten.
        for time in ("first", "second"):
            with self.subTest(machine=machine, time=time):
                with self.assertRaises(NoMachine) as caught:
                    looked(machine)
                self.assertIsInstance(caught.exception, StairError)
                self.assertIsInstance(caught.exception, ValueError)
                self.assertNotIsInstance(caught.exception, NoNote)
        self.assertEqual(repr(machine), before)

    def refused_with_rule(self, rooms, signs, rule):
        """The rule is refused at the first place, a middle one and the last."""
        many = rooms * signs
        for place in sorted({0, many // 2, many - 1}):
            rules = [(signs - 1, 1, rooms - 1)] * many
            rules[place] = rule
            self.refused((rooms, signs, tuple(rules)))
            rules = [None] * many
            rules[place] = rule
            self.refused((rooms, signs, tuple(rules)))

    def test_all_sizes_are_machines(self):
        for rooms in range(1, 7):
            for signs in range(2, 5):
                many = rooms * signs
                self.assertEqual(looked((rooms, signs, (None,) * many)), 0)
                self.assertEqual(looked((rooms, signs, ((0, 0, 0),) * many)), many)
                self.assertEqual(looked((rooms, signs, ((signs - 1, 1, rooms - 1),) * many)), many)

    def test_rules_that_are_not_none_are_counted(self):
        self.assertEqual(looked(RUNNER), 1)
        self.assertEqual(looked(NEVER_ENDING), 2)
        self.assertEqual(looked(BEAVER), 6)
        self.assertEqual(looked((1, 2, (None, None))), 0)
        self.assertEqual(looked((1, 2, (None, (0, 0, 0)))), 1)
        self.assertEqual(looked((2, 2, (None, (0, 0, 0), (0, 0, 0), None))), 2)
        self.assertIs(type(looked(LARGE)), int)
        self.assertEqual(looked(LARGE), sum(rule is not None for rule in LARGE[2]))

    def test_every_rule_of_a_size_is_taken(self):
        for rooms, signs in ((1, 2), (6, 4), (3, 3)):
            for write in range(signs):
                for way in (0, 1):
                    for room in range(rooms):
                        rules = ((write, way, room),) + (None,) * (rooms * signs - 1)
                        self.assertEqual(looked((rooms, signs, rules)), 1)

    def test_rooms_out_of_bounds(self):
        for signs in (2, 3, 4):
            self.refused((0, signs, ()))
            self.refused((7, signs, (None,) * (7 * signs)))
            self.refused((7, signs, ((0, 0, 0),) * (7 * signs)))
            self.refused((8, signs, (None,) * (8 * signs)))
            for rooms in (-1, -GREAT, GREAT):
                self.refused((rooms, signs, ()))
                self.refused((rooms, signs, (None,) * signs))

    def test_signs_out_of_bounds(self):
        for rooms in (1, 2, 6):
            self.refused((rooms, 1, (None,) * rooms))
            self.refused((rooms, 1, ((0, 0, 0),) * rooms))
            self.refused((rooms, 5, (None,) * (5 * rooms)))
            self.refused((rooms, 5, ((0, 0, 0),) * (5 * rooms)))
            for signs in (0, -1, -GREAT, GREAT):
                self.refused((rooms, signs, ()))
                self.refused((rooms, signs, (None,) * rooms))

    def test_rooms_and_signs_both_below_nought(self):
        self.refused((-1, -2, (None, None)))
        self.refused((0, 0, ()))

    def test_too_few_and_too_many_rules(self):
        for rooms in range(1, 7):
            for signs in (2, 3, 4):
                many = rooms * signs
                for rule in (None, (0, 0, 0)):
                    self.refused((rooms, signs, (rule,) * (many - 1)))
                    self.refused((rooms, signs, (rule,) * (many + 1)))
        self.refused((1, 2, ()))
        self.refused((2, 3, (None,) * 5 + ((0, 1, 0),) * 2))

    def test_a_rule_with_a_wrong_sign(self):
        for rooms, signs in ((1, 2), (6, 2), (3, 3), (1, 4), (6, 4)):
            for write in (-1, signs, signs + 1, -GREAT, GREAT):
                for way in (0, 1):
                    self.refused_with_rule(rooms, signs, (write, way, 0))

    def test_a_rule_with_a_wrong_way(self):
        for rooms, signs in ((1, 2), (6, 2), (6, 4)):
            for way in (-1, 2, 3, -GREAT, GREAT):
                self.refused_with_rule(rooms, signs, (0, way, 0))

    def test_a_rule_with_a_wrong_room(self):
        for rooms, signs in ((1, 2), (1, 4), (2, 4), (5, 3), (6, 4)):
            for room in (-1, rooms, rooms + 1, -GREAT, GREAT):
                for way in (0, 1):
                    self.refused_with_rule(rooms, signs, (0, way, room))

    def test_numbers_too_great_to_be_written_out(self):
        huge = 10 ** 5000
        for machine in (
            (huge, 2, ()), (1, huge, ()),
            (1, 2, ((huge, 0, 0), None)), (1, 2, ((0, huge, 0), None)), (1, 2, ((0, 0, huge), None)),
        ):
            with self.assertRaises(NoMachine):
                looked(machine)

    def test_a_refusal_leaves_later_answers_alone(self):
        self.refused((1, 2, ((1, 2, 0), None)))
        self.assertEqual(looked(RUNNER), 1)
        self.refused((1, 2, ((1, 1, 1), None)))
        self.assertEqual(looked((1, 2, (None, None))), 0)
        self.assertEqual(looked(RUNNER), 1)


class BegunTest(unittest.TestCase):
    def test_words(self):
        for word, stand in (
            ((), (0, (), 0, ())),
            ((0,), (0, (), 0, ())),
            ((3,), (0, (), 3, ())),
            ((1, 2), (0, (), 1, (2,))),
            ((0, 1), (0, (), 0, (1,))),
            ((1, 0), (0, (), 1, ())),
            ((2, 1, 0), (0, (), 2, (1,))),
            ((2, 0, 1), (0, (), 2, (0, 1))),
            ((0, 0, 1, 0, 0), (0, (), 0, (0, 1))),
            ((1, 0, 0, 3, 0, 0, 0), (0, (), 1, (0, 0, 3))),
            ((3, 2, 1, 3, 2, 1, 3, 2, 1, 3, 2, 1), (0, (), 3, (2, 1, 3, 2, 1, 3, 2, 1, 3, 2, 1))),
        ):
            with self.subTest(word=word):
                before = repr(word)
                self.assertEqual(begun(word), stand)
                self.assertEqual(kinds_of_stand(begun(word)), STAND_KINDS)
                self.assertEqual(repr(word), before)

    def test_noughts_alone(self):
        for length in range(13):
            self.assertEqual(begun((0,) * length), (0, (), 0, ()))

    def test_a_word_beyond_the_bound_is_not_refused(self):
        self.assertEqual(begun((1,) * 20 + (0,) * 5), (0, (), 1, (1,) * 19))


class SteppedTest(unittest.TestCase):
    def test_to_the_left(self):
        machine = (2, 3, ((2, 0, 1), (0, 0, 0), None, None, None, None))
        self.assertEqual(stepped(machine, (0, (1, 2), 0, (0, 1))), (1, (2,), 1, (2, 0, 1)))
        self.assertEqual(stepped(machine, (0, (0, 2), 1, (0, 1))), (0, (2,), 0, (0, 0, 1)))
        self.assertEqual(stepped(machine, (0, (1,), 0, ())), (1, (), 1, (2,)))
        self.assertEqual(stepped(machine, (0, (), 0, (1,))), (1, (), 0, (2, 1)))
        self.assertEqual(stepped(machine, (0, (), 0, ())), (1, (), 0, (2,)))

    def test_to_the_right(self):
        machine = (2, 3, ((2, 1, 1), (0, 1, 0), None, None, None, None))
        self.assertEqual(stepped(machine, (0, (0, 1), 0, (1, 2))), (1, (2, 0, 1), 1, (2,)))
        self.assertEqual(stepped(machine, (0, (0, 1), 1, (0, 2))), (0, (0, 0, 1), 0, (2,)))
        self.assertEqual(stepped(machine, (0, (), 0, (1,))), (1, (2,), 1, ()))
        self.assertEqual(stepped(machine, (0, (1,), 0, ())), (1, (2, 1), 0, ()))
        self.assertEqual(stepped(machine, (0, (), 0, ())), (1, (2,), 0, ()))

    def test_a_nought_written_beside_an_empty_side(self):
        to_left = (1, 2, ((0, 0, 0), (0, 0, 0)))
        to_right = (1, 2, ((0, 1, 0), (0, 1, 0)))
        for under in (0, 1):
            self.assertEqual(stepped(to_left, (0, (), under, ())), (0, (), 0, ()))
            self.assertEqual(stepped(to_right, (0, (), under, ())), (0, (), 0, ()))
            self.assertEqual(stepped(to_left, (0, (1, 1), under, ())), (0, (1,), 1, ()))
            self.assertEqual(stepped(to_right, (0, (), under, (1, 1))), (0, (), 1, (1,)))

    def test_none_at_an_end(self):
        self.assertIsNone(stepped(RUNNER, (0, (), 1, ())))
        self.assertIsNone(stepped(RUNNER, (0, (1, 0, 1), 1, (0, 1))))
        self.assertIsNone(stepped(BEAVER, (3, (1,), 0, (1,))))

    def test_the_rule_stands_at_room_times_signs_plus_sign(self):
        for rooms in range(1, 7):
            for signs in (2, 3, 4):
                for room in range(rooms):
                    for sign in range(signs):
                        rules = [None] * (rooms * signs)
                        rules[room * signs + sign] = (1, 1, rooms - 1)
                        machine = (rooms, signs, tuple(rules))
                        self.assertEqual(stepped(machine, (room, (), sign, ())), (rooms - 1, (1,), 0, ()))
                        self.assertIsNone(stepped(machine, (room, (), (sign + 1) % signs, ())))

    def test_as_on_a_tape_of_places(self):
        for machine in MACHINES:
            for stand in stands(machine, 2):
                before = repr((machine, stand))
                after = stepped(machine, stand)
                self.assertEqual(after, tape_stepped(machine, stand), (machine, stand))
                self.assertEqual(repr((machine, stand)), before)
                if after is not None:
                    self.assertEqual(kinds_of_stand(after), STAND_KINDS)
                    self.assertNotEqual(after[1][-1:], (0,))
                    self.assertNotEqual(after[3][-1:], (0,))

    def test_sides_of_twelve_signs_and_more(self):
        for length in (11, 12, 13, 20):
            left = tuple((place + 1) % 4 for place in range(length - 1)) + (3,)
            right = tuple((place * 3 + 2) % 4 for place in range(length - 1)) + (1,)
            for room in range(6):
                for under in range(4):
                    stand = (room, left, under, right)
                    self.assertEqual(stepped(LARGE, stand), tape_stepped(LARGE, stand))

    def test_machines_of_one_size_are_told_apart(self):
        stand = (0, (1,), 0, (1, 1))
        other = (1, 2, ((0, 0, 0), None))
        for turn in range(3):
            self.assertEqual(stepped(RUNNER, stand), (0, (1, 1), 1, (1,)))
            self.assertEqual(stepped(other, stand), (0, (), 1, (0, 1, 1)))

    def test_a_machine_beyond_the_bounds_is_not_refused(self):
        machine = (7, 5, (None,) * 34 + ((4, 0, 6),))
        self.assertEqual(stepped(machine, (6, (4,), 4, ())), (6, (), 4, (4,)))
        self.assertIsNone(stepped(machine, (6, (4,), 3, ())))


class GoneTest(unittest.TestCase):
    def test_no_step(self):
        for machine in MACHINES:
            for stand in stands(machine, 1):
                self.assertEqual(gone(machine, stand, 0), (stand, 0))

    def test_fewer_as_many_and_more_than_to_the_end(self):
        start = (0, (), 0, (0, 0, 1))
        end = (0, (1, 1, 1), 1, ())
        self.assertEqual(gone(RUNNER, start, 1), ((0, (1,), 0, (0, 1)), 1))
        self.assertEqual(gone(RUNNER, start, 2), ((0, (1, 1), 0, (1,)), 2))
        self.assertEqual(gone(RUNNER, start, 3), (end, 3))
        self.assertEqual(gone(RUNNER, start, 4), (end, 3))
        self.assertEqual(gone(RUNNER, start, 100), (end, 3))

    def test_from_an_end(self):
        end = (0, (1,), 1, (0, 1))
        for most in (0, 1, 100):
            self.assertEqual(gone(RUNNER, end, most), (end, 0))

    def test_from_the_empty_tape_to_the_end(self):
        end = (3, (1, 1), 1, (1, 1))
        self.assertEqual(gone(BEAVER, begun(()), 20), ((0, (1,), 1, (1, 1, 1)), 20))
        self.assertEqual(gone(BEAVER, begun(()), 21), (end, 21))
        self.assertEqual(gone(BEAVER, begun(()), 22), (end, 21))
        self.assertEqual(gone(BEAVER, begun(()), 100), (end, 21))

    def test_just_as_many_as_asked_without_an_end(self):
        blank = (1, 2, ((1, 1, 0), (1, 1, 0)))
        for most in (0, 1, 2, 50, 99, 100, 101, 150):
            self.assertEqual(gone(blank, begun(()), most), ((0, (1,) * most, 0, ()), most))

    def test_as_so_many_single_steps(self):
        for machine in MACHINES:
            for stand in stands(machine, 1):
                here, steps = stand, 0
                for most in range(31):
                    before = repr((machine, stand))
                    answer = gone(machine, stand, most)
                    self.assertEqual(answer, (here, steps))
                    self.assertEqual(repr((machine, stand)), before)
                    self.assertIs(type(answer), tuple)
                    self.assertIs(type(answer[1]), int)
                    self.assertEqual(kinds_of_stand(answer[0]), STAND_KINDS)
                    after = tape_stepped(machine, here)
                    if after is not None:
                        here, steps = after, steps + 1

    def test_asked_again_in_another_order(self):
        start = begun((1, 0, 2))
        first = [gone(machine, start, 20) for machine in (MIDDLE, LARGE)]
        again = [gone(machine, start, 20) for machine in (LARGE, MIDDLE)]
        self.assertEqual(first, again[::-1])
