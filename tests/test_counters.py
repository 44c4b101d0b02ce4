"""Points 1 and 6: spot_stepped and spot_gone."""

import unittest

from downstair.counters import spot_gone, spot_stepped
from tests.samples import COUNTS, ROWS, row_stepped

# Moves counter 0 to counter 1, two for one: from (n, 0, 0) it comes in 3 n + 1 steps to a stop.
DOUBLING = [("take", 0, 1, 3), ("add", 1, 2), ("add", 1, 0), ("stop",)]


class SpotSteppedTest(unittest.TestCase):
    def stays_as_it_is(self, rows, spot):
        before = repr((rows, spot))
        answer = spot_stepped(rows, spot)
        self.assertEqual(repr((rows, spot)), before)
        return answer

    def test_an_add(self):
        for counter, after in ((0, (6, 7, 9)), (1, (5, 8, 9)), (2, (5, 7, 10))):
            rows = [("stop",), ("stop",), ("add", counter, 0)]
            self.assertEqual(self.stays_as_it_is(rows, (2, (5, 7, 9))), (0, after))

    def test_an_add_to_nought(self):
        for counter, after in ((0, (1, 0, 0)), (1, (0, 1, 0)), (2, (0, 0, 1))):
            self.assertEqual(self.stays_as_it_is([("add", counter, 0)], (0, (0, 0, 0))), (0, after))

    def test_a_take_above_nought(self):
        for counter, after in ((0, (4, 7, 9)), (1, (5, 6, 9)), (2, (5, 7, 8))):
            rows = [("stop",), ("take", counter, 2, 0), ("stop",)]
            self.assertEqual(self.stays_as_it_is(rows, (1, (5, 7, 9))), (2, after))

    def test_a_take_of_the_last_one(self):
        for counter, after in ((0, (0, 1, 1)), (1, (1, 0, 1)), (2, (1, 1, 0))):
            rows = [("stop",), ("take", counter, 2, 0), ("stop",)]
            self.assertEqual(self.stays_as_it_is(rows, (1, (1, 1, 1))), (2, after))

    def test_a_take_at_nought(self):
        for counter, counts in ((0, (0, 7, 9)), (1, (5, 0, 9)), (2, (5, 7, 0))):
            rows = [("stop",), ("take", counter, 0, 2), ("stop",)]
            self.assertEqual(self.stays_as_it_is(rows, (1, counts)), (2, counts))

    def test_a_stop(self):
        for counts in COUNTS:
            self.assertIsNone(self.stays_as_it_is([("stop",)], (0, counts)))
            self.assertIsNone(self.stays_as_it_is([("add", 0, 0), ("stop",), ("add", 1, 1)], (1, counts)))

    def test_to_its_own_place(self):
        rows = [("take", 1, 0, 0), ("add", 2, 1)]
        self.assertEqual(spot_stepped(rows, (0, (0, 2, 0))), (0, (0, 1, 0)))
        self.assertEqual(spot_stepped(rows, (0, (0, 0, 0))), (0, (0, 0, 0)))
        self.assertEqual(spot_stepped(rows, (1, (0, 0, 0))), (1, (0, 0, 1)))

    def test_great_counts(self):
        great = 10 ** 30
        for counter in (0, 1, 2):
            less = tuple(great - 1 if counter == other else great for other in range(3))
            more = tuple(great + 1 if counter == other else great for other in range(3))
            rows = [("add", counter, 1), ("take", counter, 0, 1)]
            self.assertEqual(spot_stepped(rows, (0, (great,) * 3)), (1, more))
            self.assertEqual(spot_stepped(rows, (1, (great,) * 3)), (0, less))

    def test_every_row_from_many_counts(self):
        for place in range(len(ROWS)):
            for counts in COUNTS:
                spot = (place, counts)
                after = self.stays_as_it_is(ROWS, spot)
                self.assertEqual(after, row_stepped(ROWS, spot))
                if after is not None:
                    kinds = (type(after), type(after[0]), type(after[1]), [type(count) for count in after[1]])
                    self.assertEqual(kinds, (tuple, int, tuple, [int] * 3))

    def test_four_hundred_rows_and_more(self):
        for many in (1, 399, 400, 401, 600):
            rows = [("add", place % 3, (place + 1) % many) for place in range(many)]
            for place in (0, many // 2, many - 1):
                spot = (place, (3, 2, 1))
                self.assertEqual(spot_stepped(rows, spot), row_stepped(rows, spot))

    def test_rows_may_be_changed_later(self):
        rows = [("add", 0, 0)]
        self.assertEqual(spot_stepped(rows, (0, (0, 0, 0))), (0, (1, 0, 0)))
        rows[0] = ("add", 1, 0)
        self.assertEqual(spot_stepped(rows, (0, (0, 0, 0))), (0, (0, 1, 0)))
        rows[0] = ("stop",)
        self.assertIsNone(spot_stepped(rows, (0, (0, 0, 0))))


class SpotGoneTest(unittest.TestCase):
    def test_no_step(self):
        for place in range(len(ROWS)):
            for counts in COUNTS:
                self.assertEqual(spot_gone(ROWS, (place, counts), 0), ((place, counts), 0))

    def test_fewer_as_many_and_more_than_to_a_stop(self):
        start = (0, (4, 0, 5))
        end = (3, (0, 8, 5))
        self.assertEqual(spot_gone(DOUBLING, start, 1), ((1, (3, 0, 5)), 1))
        self.assertEqual(spot_gone(DOUBLING, start, 2), ((2, (3, 1, 5)), 2))
        self.assertEqual(spot_gone(DOUBLING, start, 11), ((2, (0, 7, 5)), 11))
        self.assertEqual(spot_gone(DOUBLING, start, 12), ((0, (0, 8, 5)), 12))
        self.assertEqual(spot_gone(DOUBLING, start, 13), (end, 13))
        self.assertEqual(spot_gone(DOUBLING, start, 14), (end, 13))
        self.assertEqual(spot_gone(DOUBLING, start, 20000), (end, 13))

    def test_from_a_stop(self):
        for most in (0, 1, 20000):
            self.assertEqual(spot_gone(DOUBLING, (3, (1, 2, 3)), most), ((3, (1, 2, 3)), 0))

    def test_thousands_of_steps_to_a_stop(self):
        self.assertEqual(spot_gone(DOUBLING, (0, (6666, 0, 0)), 20000), ((3, (0, 13332, 0)), 19999))
        self.assertEqual(spot_gone(DOUBLING, (0, (6667, 0, 0)), 20000), ((2, (0, 13333, 0)), 20000))

    def test_one_add_for_ever(self):
        for most in (1, 999, 19999, 20000, 20001, 25000):
            self.assertEqual(spot_gone([("add", 1, 0)], (0, (2, 3, 4)), most), ((0, (2, 3 + most, 4)), most))

    def test_great_counts(self):
        great = 10 ** 30
        rows = [("take", 2, 1, 2), ("add", 0, 0), ("stop",)]
        self.assertEqual(spot_gone(rows, (0, (great, 7, great)), 4000), ((0, (great + 2000, 7, great - 2000)), 4000))

    def test_as_so_many_single_steps(self):
        for place in range(len(ROWS)):
            for counts in COUNTS:
                here, steps = (place, counts), 0
                for most in range(25):
                    before = repr(ROWS)
                    answer = spot_gone(ROWS, (place, counts), most)
                    self.assertEqual(answer, (here, steps))
                    self.assertEqual((type(answer), type(answer[0]), type(answer[1])), (tuple, tuple, int))
                    self.assertEqual(repr(ROWS), before)
                    after = row_stepped(ROWS, here)
                    if after is not None:
                        here, steps = after, steps + 1

    def test_rows_may_be_changed_later(self):
        rows = list(DOUBLING)
        self.assertEqual(spot_gone(rows, (0, (1, 0, 0)), 100), ((3, (0, 2, 0)), 4))
        rows[2] = ("add", 2, 0)
        self.assertEqual(spot_gone(rows, (0, (1, 0, 0)), 100), ((3, (0, 1, 1)), 4))
