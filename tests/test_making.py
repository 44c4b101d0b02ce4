"""Points 1, 7, 8 and 9: rows_of, entry, spot_of, stand_of and cost."""

import unittest

from downstair.counters import spot_gone, spot_stepped
from downstair.making import cost, entry, rows_of, spot_of, stand_of
from downstair.tapes import begun
from tests.samples import (
    BEAVER, LARGE, MACHINES, NEVER_ENDING, RUNNER, STAND_KINDS, VARIED,
    kinds_of_stand, made_machine, pile_of, row_stepped, sides, stands, table_entries, table_rows, tape_stepped,
)

GREAT = 10 ** 30
TWO_SIGNS_ROWS = [
    ("take", 0, 1, 3), ("add", 2, 2), ("add", 2, 0), ("take", 2, 4, 5), ("add", 0, 3),
    ("add", 0, 6),
    ("take", 1, 7, 9), ("take", 1, 8, 11), ("add", 2, 6),
    ("take", 2, 10, 0), ("add", 1, 9), ("take", 2, 12, 13), ("add", 1, 11),
    ("stop",),
]
THREE_SIGNS = (1, 3, ((2, 0, 0), None, None))
THREE_SIGNS_ROWS = [
    ("take", 1, 1, 4), ("add", 2, 2), ("add", 2, 3), ("add", 2, 0), ("take", 2, 5, 6), ("add", 1, 4),
    ("add", 1, 7), ("add", 1, 8),
    ("take", 0, 9, 12), ("take", 0, 10, 14), ("take", 0, 11, 16), ("add", 2, 8),
    ("take", 2, 13, 0), ("add", 0, 12), ("take", 2, 15, 18), ("add", 0, 14), ("take", 2, 17, 19), ("add", 0, 16),
    ("stop",), ("stop",),
]
FOUR_SIGNS = (1, 4, (None, (0, 1, 0), None, (3, 0, 0)))
FOUR_SIGNS_ROWS = [
    ("stop",),
    ("take", 0, 2, 6), ("add", 2, 3), ("add", 2, 4), ("add", 2, 5), ("add", 2, 1), ("take", 2, 7, 8), ("add", 0, 6),
    ("take", 1, 9, 13), ("take", 1, 10, 15), ("take", 1, 11, 17), ("take", 1, 12, 19), ("add", 2, 8),
    ("take", 2, 14, 0), ("add", 1, 13), ("take", 2, 16, 1), ("add", 1, 15),
    ("take", 2, 18, 21), ("add", 1, 17), ("take", 2, 20, 22), ("add", 1, 19),
    ("stop",),
    ("take", 1, 23, 27), ("add", 2, 24), ("add", 2, 25), ("add", 2, 26), ("add", 2, 22), ("take", 2, 28, 29),
    ("add", 1, 27),
    ("add", 1, 30), ("add", 1, 31), ("add", 1, 32),
    ("take", 0, 33, 37), ("take", 0, 34, 39), ("take", 0, 35, 41), ("take", 0, 36, 43), ("add", 2, 32),
    ("take", 2, 38, 0), ("add", 0, 37), ("take", 2, 40, 1), ("add", 0, 39),
    ("take", 2, 42, 21), ("add", 0, 41), ("take", 2, 44, 22), ("add", 0, 43),
]


class RowsTest(unittest.TestCase):
    def test_rows_written_out(self):
        self.assertEqual(rows_of(RUNNER), TWO_SIGNS_ROWS)
        self.assertEqual(rows_of(THREE_SIGNS), THREE_SIGNS_ROWS)
        self.assertEqual(rows_of(FOUR_SIGNS), FOUR_SIGNS_ROWS)

    def test_every_rule_by_the_table(self):
        for signs in (2, 3, 4):
            for rooms in (1, 2, 6):
                for write in range(signs):
                    for way in (0, 1):
                        self.by_the_table_at_each_place(rooms, signs, (write, way, rooms - 1))

    def by_the_table_at_each_place(self, rooms, signs, rule):
        for place in range(rooms * signs):
            rules = [None] * (rooms * signs)
            rules[place] = rule
            machine = (rooms, signs, tuple(rules))
            self.assertEqual(rows_of(machine), table_rows(machine), machine)

    def test_machines_by_the_table(self):
        for machine in MACHINES + tuple(made_machine(rooms, 4, 25) for rooms in range(1, 7)):
            before = repr(machine)
            rows = rows_of(machine)
            self.assertEqual(rows, table_rows(machine), machine)
            self.assertEqual(repr(machine), before)
            self.assertIs(type(rows), list)
            for row in rows:
                self.assertIs(type(row), tuple)
                self.assertEqual([type(part) for part in row], [str] + [int] * (len(row) - 1))

    def test_all_rooms_are_left_for(self):
        for room in range(6):
            machine = (6, 4, ((3, room % 2, room),) * 24)
            self.assertEqual(rows_of(machine), table_rows(machine))
            self.assertEqual(len(rows_of(machine)), 24 * 23)

    def test_rules_of_none_alone(self):
        for rooms in range(1, 7):
            for signs in (2, 3, 4):
                self.assertEqual(rows_of((rooms, signs, (None,) * (rooms * signs))), [("stop",)] * (rooms * signs))

    def test_the_list_told_is_the_askers(self):
        for machine in MACHINES:
            rows = rows_of(machine)
            rows[0] = ("add", 2, 0)
            rows.append(("stop",))
            self.assertEqual(rows_of(machine), table_rows(machine))
            rows.clear()
            self.assertEqual(rows_of(machine), table_rows(machine))
            self.assertIsNot(rows_of(machine), rows_of(machine))

    def test_a_machine_beyond_the_bounds_is_not_refused(self):
        machine = made_machine(7, 5, 6)
        self.assertEqual(rows_of(machine), table_rows(machine))


class EntryTest(unittest.TestCase):
    def test_entries_written_out(self):
        self.assertEqual([entry(RUNNER, 0, sign) for sign in (0, 1)], [0, 13])
        self.assertEqual([entry(THREE_SIGNS, 0, sign) for sign in (0, 1, 2)], [0, 18, 19])
        self.assertEqual([entry(FOUR_SIGNS, 0, sign) for sign in (0, 1, 2, 3)], [0, 1, 21, 22])

    def test_each_room_and_sign(self):
        for machine in MACHINES + (made_machine(7, 5, 6),):
            rooms, signs, rules = machine
            before = repr(machine)
            told = [entry(machine, room, sign) for room in range(rooms) for sign in range(signs)]
            self.assertEqual(told, table_entries(machine)[:-1])
            self.assertEqual({type(place) for place in told}, {int})
            self.assertEqual(repr(machine), before)

    def test_an_entry_is_a_stop_where_the_rule_is_none(self):
        for machine in MACHINES:
            rooms, signs, rules = machine
            rows = rows_of(machine)
            for number, rule in enumerate(rules):
                row = rows[entry(machine, number // signs, number % signs)]
                self.assertEqual(row == ("stop",), rule is None)


class SpotTest(unittest.TestCase):
    def test_spots_written_out(self):
        self.assertEqual(spot_of(RUNNER, (0, (0, 1), 0, (1, 1, 1))), (0, (2, 7, 0)))
        self.assertEqual(spot_of(RUNNER, (0, (1,), 1, ())), (13, (1, 0, 0)))
        self.assertEqual(spot_of(THREE_SIGNS, (0, (2, 0, 1), 2, (1, 2))), (19, (11, 7, 0)))
        self.assertEqual(spot_of(FOUR_SIGNS, (0, (), 3, (0, 3))), (22, (0, 12, 0)))
        self.assertEqual(stand_of(RUNNER, (0, (2, 7, 0))), (0, (0, 1), 0, (1, 1, 1)))
        self.assertEqual(stand_of(RUNNER, (13, (1, 0, 0))), (0, (1,), 1, ()))
        self.assertEqual(stand_of(THREE_SIGNS, (19, (11, 7, 0))), (0, (2, 0, 1), 2, (1, 2)))
        self.assertEqual(stand_of(FOUR_SIGNS, (22, (0, 12, 0))), (0, (), 3, (0, 3)))

    def test_from_a_stand_and_back(self):
        for machine in MACHINES:
            entries = table_entries(machine)
            for stand in stands(machine, 2):
                room, under, low, high = pile_of(machine, stand)
                before = repr((machine, stand))
                spot = spot_of(machine, stand)
                self.assertEqual(spot, (entries[room * machine[1] + under], (low, high, 0)))
                self.assertEqual((type(spot), type(spot[0]), type(spot[1])), (tuple, int, tuple))
                self.assertEqual(stand_of(machine, spot), stand)
                self.assertEqual(repr((machine, stand)), before)

    def test_sides_of_twelve_signs_and_more(self):
        for signs in (2, 3, 4):
            machine = made_machine(6, signs, 5)
            for length in (12, 13):
                stand = (5, (signs - 1,) * length, signs - 1, (0,) * (length - 1) + (1,))
                spot = spot_of(machine, stand)
                self.assertEqual(spot[1], (signs ** length - 1, signs ** (length - 1), 0))
                self.assertEqual(stand_of(machine, spot), stand)

    def test_great_counts(self):
        for machine in MACHINES:
            for place in table_entries(machine)[:-1]:
                for counts in ((GREAT, 0, 0), (0, GREAT, 0), (GREAT + 1, GREAT - 1, 0)):
                    before = repr(machine)
                    stand = stand_of(machine, (place, counts))
                    self.assertEqual(kinds_of_stand(stand), STAND_KINDS)
                    self.assertEqual(spot_of(machine, stand), (place, counts))
                    self.assertEqual(repr(machine), before)

    def test_none_at_a_place_that_is_no_entry(self):
        for machine in MACHINES:
            entries = table_entries(machine)
            for place in range(entries[-1]):
                for counts in ((0, 0, 0), (3, 5, 0)):
                    stand = stand_of(machine, (place, counts))
                    self.assertEqual(stand is not None, place in entries[:-1], (machine, place))

    def test_none_where_counter_two_is_not_nought(self):
        for machine in MACHINES:
            for place in range(table_entries(machine)[-1]):
                for spare in (1, 2, 7, GREAT):
                    self.assertIsNone(stand_of(machine, (place, (0, 0, spare))))
                    self.assertIsNone(stand_of(machine, (place, (3, 5, spare))))

    def test_machines_of_one_size_are_told_apart(self):
        other = (1, 2, (None, (1, 1, 0)))
        for turn in range(3):
            self.assertEqual(spot_of(RUNNER, (0, (), 1, (1,))), (13, (0, 1, 0)))
            self.assertEqual(spot_of(other, (0, (), 1, (1,))), (1, (0, 1, 0)))
            self.assertIsNone(stand_of(RUNNER, (1, (0, 1, 0))))
            self.assertEqual(stand_of(other, (1, (0, 1, 0))), (0, (), 1, (1,)))


class CostTest(unittest.TestCase):
    def test_costs_written_out(self):
        # Far 2, near 7: 2 * 7 + 3 * 5 + 1 + 1 + 4.
        self.assertEqual(cost(RUNNER, (0, (0, 1), 0, (1, 1, 1))), 35)
        self.assertEqual(cost(RUNNER, (0, (), 0, ())), 5)
        # Far 7, near 11: 7 * 10 + 3 * 6 + 2 + 2 + 4.
        self.assertEqual(cost(THREE_SIGNS, (0, (2, 0, 1), 0, (1, 2))), 96)
        # Far 6, near 9, a nought written: 6 * 13 + 2 * 7 + 1 + 0 + 4.
        self.assertEqual(cost(FOUR_SIGNS, (0, (2, 1), 1, (1, 2))), 97)
        self.assertEqual(cost(FOUR_SIGNS, (0, (), 1, ())), 4)
        self.assertEqual(cost(NEVER_ENDING, (0, (), 1, (1,))), 5)

    def test_none_at_an_end(self):
        self.assertIsNone(cost(RUNNER, (0, (), 1, ())))
        self.assertIsNone(cost(RUNNER, (0, (1, 1), 1, (0, 1))))
        self.assertIsNone(cost(BEAVER, (3, (1,), 0, (1,))))
        self.assertIsNone(cost(FOUR_SIGNS, (0, (3,), 2, (1,))))

    def test_the_rows_come_by_the_cost_to_the_next_stand(self):
        for machine in MACHINES:
            rows = rows_of(machine)
            for stand in stands(machine, 2 if machine[1] == 2 else 1):
                self.comes_to_the_next(machine, rows, stand)

    def comes_to_the_next(self, machine, rows, stand):
        before = repr((machine, stand))
        steps = cost(machine, stand)
        self.assertEqual(repr((machine, stand)), before)
        after = tape_stepped(machine, stand)
        spot = spot_of(machine, stand)
        if after is None:
            self.assertIsNone(steps)
            self.assertEqual(rows[spot[0]], ("stop",))
            self.assertIsNone(spot_stepped(rows, spot))
            return
        self.assertIs(type(steps), int)
        for step in range(steps - 1):
            spot = spot_stepped(rows, spot)
            self.assertIsNone(stand_of(machine, spot), (machine, stand, step))
        spot = spot_stepped(rows, spot)
        self.assertEqual(spot, spot_of(machine, after))
        self.assertEqual(stand_of(machine, spot), after)

    def test_greater_counts(self):
        for machine in VARIED + (LARGE,):
            rows = rows_of(machine)
            rooms, signs, rules = machine
            # From each side one in seven, so that no pair of lengths goes untried and the steps stay few.
            some = sides(signs, 3)[::7]
            for number, rule in enumerate(rules):
                for left, right in zip(some, reversed(some)):
                    stand = (number // signs, left, number % signs, right)
                    steps = cost(machine, stand)
                    after = tape_stepped(machine, stand)
                    if after is None:
                        self.assertIsNone(steps)
                    else:
                        come = spot_gone(rows, spot_of(machine, stand), steps)
                        self.assertEqual(come, (spot_of(machine, after), steps))

    def test_sides_of_twelve_signs(self):
        for machine in VARIED:
            rooms, signs, rules = machine
            stand = (0, (1,) * 12, 0, (signs - 1,) * 12)
            near, far = (signs ** 12 - 1) // (signs - 1), signs ** 12 - 1
            self.assertEqual(rules[0], (0, 0, 1))
            self.assertEqual(cost(machine, stand), far * (3 * signs + 1) + near // signs * (signs + 3) + 1 + 4)
            turned = (0, (signs - 1,) * 12, 1, (1,) * 12)
            self.assertEqual(rules[1], (0, 1, 2))
            self.assertEqual(cost(machine, turned), cost(machine, stand))

    def test_several_stands_one_behind_the_other(self):
        rows = rows_of(BEAVER)
        stand, spot, whole = begun(()), spot_of(BEAVER, begun(())), 0
        for step in range(21):
            steps = cost(BEAVER, stand)
            stand = tape_stepped(BEAVER, stand)
            spot, gone = spot_gone(rows, spot, steps)
            self.assertEqual((spot, gone), (spot_of(BEAVER, stand), steps))
            whole += steps
        self.assertIsNone(cost(BEAVER, stand))
        self.assertEqual(spot_gone(rows, spot_of(BEAVER, begun(())), whole), (spot, whole))
        self.assertEqual(spot_gone(rows, spot_of(BEAVER, begun(())), 20000), (spot, whole))

    def test_stands_met_on_the_way_are_those_of_the_tape(self):
        for machine in (RUNNER, BEAVER) + VARIED:
            rows = table_rows(machine)
            stand = begun((0, 1, 0, 1))
            spot = spot_of(machine, stand)
            for step in range(1500):
                spot = row_stepped(rows, spot)
                if spot is None:
                    self.assertIsNone(tape_stepped(machine, stand))
                    break
                met = stand_of(machine, spot)
                if met is not None:
                    stand = tape_stepped(machine, stand)
                    self.assertEqual(met, stand)
