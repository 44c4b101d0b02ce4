"""Points 4, 5, 9 and 12: tape, pile, rows and number led on side by side."""

import unittest

from downstair.counters import spot_gone, spot_stepped
from downstair.making import cost, rows_of, spot_of, stand_of
from downstair.numbers import number_gone, number_of, number_stepped, pairs_of, spot_of_number
from downstair.piles import pile_stepped, piled, unpiled
from downstair.tapes import begun, gone, stepped
from tests.samples import BEAVER, RUNNER, VARIED, stands, tape_stepped

# Goes to the right up to the first 0, making each sign one less, and back to the left up to the next 0.
LESSENING = (2, 3, ((0, 0, 1), (0, 1, 0), (1, 1, 0), None, (1, 0, 1), (2, 0, 1)))


class StairsTest(unittest.TestCase):
    def led_to_the_end(self, machine, stand):
        """Leads all four on, a step of the tape at a time; answers the steps of the tape and of the rows."""
        rows = rows_of(machine)
        pairs = pairs_of(rows)
        pile, spot = piled(machine, stand), spot_of(machine, stand)
        number = number_of(spot)
        tape_steps = row_steps = 0
        while True:
            self.assertEqual(unpiled(machine, pile), stand)
            self.assertEqual(stand_of(machine, spot), stand)
            self.assertEqual(spot_of_number(rows, number), spot)
            after = stepped(machine, stand)
            self.assertEqual(after, tape_stepped(machine, stand))
            if after is None:
                break
            pile = pile_stepped(machine, pile)
            steps = cost(machine, stand)
            spot, rows_gone = spot_gone(rows, spot, steps)
            number, number_steps = number_gone(pairs, number, steps)
            self.assertEqual((rows_gone, number_steps), (steps, steps))
            stand = after
            tape_steps += 1
            row_steps += steps
        self.assertIsNone(pile_stepped(machine, pile))
        self.assertIsNone(cost(machine, stand))
        self.assertEqual(rows[spot[0]], ("stop",))
        self.assertIsNone(spot_stepped(rows, spot))
        self.assertIsNone(number_stepped(pairs, number))
        return (stand, tape_steps, row_steps)

    def from_top_to_bottom(self, machine, stand):
        """Led at once to their ends, they end together and at the same tape."""
        end, tape_steps, row_steps = self.led_to_the_end(machine, stand)
        self.assertEqual(gone(machine, stand, 100), (end, tape_steps))
        rows = rows_of(machine)
        self.assertEqual(spot_gone(rows, spot_of(machine, stand), 20000), (spot_of(machine, end), row_steps))
        number, number_steps = number_gone(pairs_of(rows), number_of(spot_of(machine, stand)), 20000)
        self.assertEqual(number_steps, row_steps)
        self.assertEqual(stand_of(machine, spot_of_number(rows, number)), end)

    def test_the_runner(self):
        for word in ((1,), (0, 1), (0, 0, 1), (0, 0, 0, 1), (0, 0, 0, 0, 1)):
            self.from_top_to_bottom(RUNNER, begun(word))

    def test_words_made_less(self):
        for first in range(3):
            for second in range(3):
                for third in range(3):
                    self.from_top_to_bottom(LESSENING, begun((first, second, third)))

    def test_small_stands_of_many_rules(self):
        led = 0
        for machine in VARIED:
            for stand in stands(machine, 1):
                # Only those that end soon: a tape that goes on makes counts that the rows walk through one by one.
                if gone(machine, stand, 6)[1] < 6:
                    self.from_top_to_bottom(machine, stand)
                    led += 1
        self.assertGreater(led, 100)

    def test_the_beaver_from_the_empty_tape(self):
        end, tape_steps, row_steps = self.led_to_the_end(BEAVER, begun(()))
        self.assertEqual((end, tape_steps), ((3, (1, 1), 1, (1, 1)), 21))
        self.from_top_to_bottom(BEAVER, begun(()))

    def test_step_by_step_rows_and_number_are_the_same(self):
        for machine, word in ((RUNNER, (0, 0, 1)), (LESSENING, (2, 1)), (BEAVER, ())):
            rows = rows_of(machine)
            pairs = pairs_of(rows)
            spot = spot_of(machine, begun(word))
            number = number_of(spot)
            while spot is not None:
                self.assertEqual(number, number_of(spot))
                spot = spot_stepped(rows, spot)
                number = number_stepped(pairs, number)
            self.assertIsNone(number)
