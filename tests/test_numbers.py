"""Points 1, 10, 11 and 12: primes, pairs_of, number_of, spot_of_number, number_stepped and number_gone."""

import unittest

from downstair.making import rows_of
from downstair.numbers import number_gone, number_of, number_stepped, pairs_of, primes, spot_of_number
from tests.samples import BEAVER, COUNTS, LARGE, MACHINES, ROWS, RUNNER, made_machine, row_stepped

GREATEST = 4000


def sieve(bound):
    crossed = [False] * bound
    for number in range(2, bound):
        for other in range(number * number, bound, number):
            crossed[other] = True
    return [number for number in range(2, bound) if not crossed[number]]


# 550 primes lie below 4000: enough for the counters and the places of more than 500 rows.
SIEVED = sieve(GREATEST)


def prime_of(place):
    return SIEVED[place + 3]


def made_number(spot):
    place, (twos, threes, fives) = spot
    return 2 ** twos * 3 ** threes * 5 ** fives * prime_of(place)


def made_pairs(rows):
    pairs = []
    for place, (kind, *told) in enumerate(rows):
        if kind == "add":
            counter, to = told
            pairs.append((SIEVED[counter] * prime_of(to), prime_of(place)))
        elif kind == "take":
            counter, to, other = told
            pairs.append((prime_of(to), prime_of(place) * SIEVED[counter]))
            pairs.append((prime_of(other), prime_of(place)))
    return pairs


def ring(many):
    """Rows that add to each counter in turn, from place to place and round again."""
    return [("add", place % 3, (place + 1) % many) for place in range(many)]


class PrimesTest(unittest.TestCase):
    def test_few(self):
        self.assertEqual(primes(0), [])
        self.assertEqual(primes(1), [2])
        self.assertEqual(primes(2), [2, 3])
        self.assertEqual(primes(10), [2, 3, 5, 7, 11, 13, 17, 19, 23, 29])

    def test_five_hundred(self):
        self.assertEqual(len(primes(500)), 500)
        self.assertEqual(primes(500)[-1], 3571)

    def test_every_number_of_them(self):
        for many in range(0, 551, 11):
            found = primes(many)
            self.assertIs(type(found), list)
            self.assertEqual(found, SIEVED[:many])
        self.assertEqual(len(SIEVED), 550)

    def test_squares_of_primes_are_left_out(self):
        for prime in primes(18):
            self.assertNotIn(prime * prime, primes(550))

    def test_the_list_told_is_the_askers(self):
        found = primes(5)
        found[0] = 1
        found.append(9)
        self.assertEqual(primes(5), [2, 3, 5, 7, 11])
        found.clear()
        self.assertEqual(primes(6), [2, 3, 5, 7, 11, 13])


class PairsTest(unittest.TestCase):
    def test_pairs_written_out(self):
        rows = [("add", 0, 1), ("take", 1, 0, 2), ("stop",), ("take", 2, 3, 0), ("add", 2, 0), ("add", 1, 4)]
        self.assertEqual(pairs_of(rows), [
            (2 * 11, 7),
            (7, 11 * 3), (13, 11),
            (17, 17 * 5), (7, 17),
            (5 * 7, 19),
            (3 * 19, 23),
        ])

    def test_an_add_on_each_counter(self):
        for counter, prime in ((0, 2), (1, 3), (2, 5)):
            self.assertEqual(pairs_of([("add", counter, 0)]), [(7 * prime, 7)])
            self.assertEqual(pairs_of([("add", counter, 1), ("stop",)]), [(11 * prime, 7)])

    def test_a_take_on_each_counter(self):
        for counter, prime in ((0, 2), (1, 3), (2, 5)):
            self.assertEqual(pairs_of([("take", counter, 0, 0)]), [(7, 7 * prime), (7, 7)])
            rows = [("stop",), ("take", counter, 2, 0), ("stop",)]
            self.assertEqual(pairs_of(rows), [(13, 11 * prime), (7, 11)])

    def test_a_stop_makes_none(self):
        self.assertEqual(pairs_of([("stop",)]), [])
        self.assertEqual(pairs_of([("stop",)] * 400), [])

    def test_many_rows(self):
        for rows in [ROWS, ring(1), ring(399), ring(400), ring(401), ring(540)] + [rows_of(one) for one in MACHINES]:
            before = repr(rows)
            pairs = pairs_of(rows)
            self.assertEqual(pairs, made_pairs(rows))
            self.assertEqual(repr(rows), before)
            self.assertIs(type(pairs), list)
            self.assertTrue(all(type(pair) is tuple and len(pair) == 2 for pair in pairs))
            self.assertTrue(all(type(number) is int for pair in pairs for number in pair))

    def test_the_list_told_is_the_askers(self):
        rows = list(ROWS)
        pairs = pairs_of(rows)
        rows[0] = ("stop",)
        self.assertEqual(pairs, made_pairs(ROWS))
        pairs.clear()
        self.assertEqual(pairs_of(rows), made_pairs(rows))
        self.assertEqual(pairs_of(ROWS), made_pairs(ROWS))


class NumberTest(unittest.TestCase):
    def test_numbers_written_out(self):
        self.assertEqual(number_of((0, (0, 0, 0))), 7)
        self.assertEqual(number_of((0, (1, 0, 0))), 14)
        self.assertEqual(number_of((0, (0, 1, 0))), 21)
        self.assertEqual(number_of((0, (0, 0, 1))), 35)
        self.assertEqual(number_of((1, (2, 1, 1))), 660)
        self.assertEqual(number_of((2, (3, 2, 1))), 8 * 9 * 5 * 13)
        self.assertEqual(number_of((5, (0, 0, 4))), 625 * 23)

    def test_there_and_back_again(self):
        for rows in (ring(1), ring(2), ROWS, ring(400), ring(450)):
            for place in sorted({0, len(rows) // 2, len(rows) - 1}):
                for counts in COUNTS + ((64, 63, 65), (100, 0, 31), (1, 200, 7), (5, 6, 1000)):
                    spot = (place, counts)
                    before = repr((rows, spot))
                    number = number_of(spot)
                    self.assertIs(type(number), int)
                    self.assertEqual(number, made_number(spot))
                    self.assertEqual(spot_of_number(rows, number), spot)
                    self.assertEqual(repr((rows, spot)), before)

    def test_each_count_there_and_back_again(self):
        for counter in range(3):
            for count in range(70):
                counts = tuple(count if other == counter else 1 for other in range(3))
                self.assertEqual(number_of((1, counts)), made_number((1, counts)))
                self.assertEqual(spot_of_number(ROWS, made_number((1, counts))), (1, counts))

    def test_great_counts(self):
        spot = (3, (20000, 10000, 5000))
        self.assertTrue(number_of(spot) == made_number(spot))
        self.assertEqual(spot_of_number(ROWS, made_number(spot)), spot)

    def test_kinds_of_a_spot(self):
        place, counts = spot_of_number(ROWS, 660)
        self.assertEqual((place, counts), (1, (2, 1, 1)))
        self.assertEqual((type(place), type(counts), [type(count) for count in counts]), (int, tuple, [int] * 3))
        self.assertIs(type(spot_of_number(ROWS, 660)), tuple)

    def test_none_without_a_prime_of_a_place(self):
        for number in (1, 2, 3, 4, 5, 6, 30, 900, 2 ** 70, 3 ** 50, 5 ** 40):
            for rows in (ring(1), ROWS, ring(400)):
                self.assertIsNone(spot_of_number(rows, number), number)

    def test_none_with_two_primes_of_places(self):
        for number in (7 * 11, 7 * 13, 11 * 13 * 30, 7 * 11 * 13, 2 ** 9 * 7 * prime_of(10), 7 * prime_of(399)):
            for rows in (ring(1), ROWS, ring(400)):
                self.assertIsNone(spot_of_number(rows, number), number)

    def test_none_with_one_prime_twice_and_oftener(self):
        for prime in (7, 11, prime_of(10), prime_of(399)):
            for number in (prime ** 2, prime ** 3, prime ** 2 * 30, prime ** 4 * 2 ** 20):
                for rows in (ring(1), ROWS, ring(400)):
                    self.assertIsNone(spot_of_number(rows, number), number)

    def test_none_with_a_prime_beyond_the_places(self):
        for many in (1, 2, 11, 400):
            rows = ring(many)
            for counts in ((0, 0, 0), (3, 2, 1)):
                last, beyond = (many - 1, counts), (many, counts)
                self.assertEqual(spot_of_number(rows, made_number(last)), last)
                self.assertIsNone(spot_of_number(rows, made_number(beyond)))
            self.assertIsNone(spot_of_number(rows, prime_of(many + 50)))
            # Primes far beyond all places.
            self.assertIsNone(spot_of_number(rows, 2 ** 61 - 1))
            self.assertIsNone(spot_of_number(rows, 7 * (2 ** 61 - 1)))

    def test_the_numbers_up_to_two_thousand(self):
        rows = ring(4)
        told = {number: spot_of_number(rows, number) for number in range(1, 2001)}
        self.assertEqual({number: spot for number, spot in told.items() if spot is not None}, {
            made_number((place, (twos, threes, fives))): (place, (twos, threes, fives))
            for place in range(4) for twos in range(12) for threes in range(8) for fives in range(6)
            if made_number((place, (twos, threes, fives))) <= 2000
        })

    def test_below_one_no_spot_has_it(self):
        for number in (0, -1, -7, -30):
            self.assertIsNone(spot_of_number(ROWS, number))

    def test_rows_may_be_changed_later(self):
        rows = ring(2)
        self.assertEqual(spot_of_number(rows, 22), (1, (1, 0, 0)))
        rows.pop()
        self.assertIsNone(spot_of_number(rows, 22))


class NumberSteppedTest(unittest.TestCase):
    def test_steps_written_out(self):
        pairs = [(22, 7), (7, 33), (13, 11)]
        self.assertEqual(number_stepped(pairs, 7), 22)
        self.assertEqual(number_stepped(pairs, 22), 26)
        self.assertEqual(number_stepped(pairs, 33), 7)
        self.assertEqual(number_stepped(pairs, 66), 14)
        self.assertIsNone(number_stepped(pairs, 13))
        self.assertIsNone(number_stepped(pairs, 1))
        self.assertIsNone(number_stepped([], 7))

    def test_the_first_pair_that_divides(self):
        self.assertEqual(number_stepped([(1, 2), (1, 3), (1, 5)], 30), 15)
        self.assertEqual(number_stepped([(1, 4), (1, 3), (1, 5)], 30), 10)
        self.assertEqual(number_stepped([(1, 4), (1, 9), (7, 5)], 30), 42)
        self.assertEqual(number_stepped([(1, 4), (8, 30)], 30), 8)
        self.assertIsNone(number_stepped([(1, 4), (1, 9), (1, 60)], 30))

    def test_the_number_behind_a_step_is_that_of_the_spot(self):
        for rows in [ROWS, ring(1), ring(400)] + [rows_of(machine) for machine in MACHINES]:
            pairs = pairs_of(rows)
            for place in range(len(rows)):
                for counts in COUNTS[:8]:
                    self.goes_with_the_spot(rows, pairs, (place, counts))

    def goes_with_the_spot(self, rows, pairs, spot):
        after = row_stepped(rows, spot)
        number = number_stepped(pairs, made_number(spot))
        if after is None:
            self.assertIsNone(number)
        else:
            self.assertEqual(number, made_number(after))
            self.assertIs(type(number), int)

    def test_up_and_down_again_behind_a_step(self):
        for rows in (ROWS, rows_of(RUNNER)):
            pairs = pairs_of(rows)
            for place in range(len(rows)):
                for counts in COUNTS:
                    number = number_stepped(pairs, number_of((place, counts)))
                    after = None if number is None else spot_of_number(rows, number)
                    self.assertEqual(after, row_stepped(rows, (place, counts)))

    def test_pairs_are_the_same_afterwards_and_may_be_changed_later(self):
        pairs = pairs_of(ROWS)
        before = repr(pairs)
        self.assertEqual(number_stepped(pairs, 7), 22)
        self.assertEqual(number_gone(pairs, 7, 50), number_gone(pairs, 7, 50))
        self.assertEqual(repr(pairs), before)
        pairs[0] = (1, 7)
        self.assertEqual(number_stepped(pairs, 7), 1)
        self.assertEqual(number_gone(pairs, 7, 50), (1, 1))
        pairs.clear()
        self.assertIsNone(number_stepped(pairs, 7))
        self.assertEqual(number_gone(pairs, 7, 50), (7, 0))


class NumberGoneTest(unittest.TestCase):
    def test_no_step(self):
        pairs = pairs_of(ROWS)
        for number in (1, 7, 22, 660):
            self.assertEqual(number_gone(pairs, number, 0), (number, 0))

    def test_fewer_as_many_and_more_than_to_the_end(self):
        pairs = [(3, 2)]
        self.assertEqual(number_gone(pairs, 32, 1), (48, 1))
        self.assertEqual(number_gone(pairs, 32, 4), (162, 4))
        self.assertEqual(number_gone(pairs, 32, 5), (243, 5))
        self.assertEqual(number_gone(pairs, 32, 6), (243, 5))
        self.assertEqual(number_gone(pairs, 32, 2000), (243, 5))
        self.assertEqual(number_gone(pairs, 243, 2000), (243, 0))

    def test_a_pair_that_doubles_for_ever(self):
        pairs = pairs_of([("add", 0, 0)])
        self.assertEqual(pairs, [(14, 7)])
        for most in (1, 999, 1999, 2000, 2001, 5000):
            number, steps = number_gone(pairs, 7, most)
            # Compared before it is handed to the test: a failure would write the whole number out.
            self.assertTrue(number == 7 * 2 ** most)
            self.assertEqual(steps, most)
        self.assertEqual(number_gone([(2, 1)], 1, 60), (2 ** 60, 60))

    def test_as_so_many_steps_of_the_rows(self):
        for rows in (ROWS, rows_of(RUNNER), rows_of(BEAVER), rows_of(LARGE), rows_of(made_machine(2, 3, 4))):
            pairs = pairs_of(rows)
            for place in (0, len(rows) // 2, len(rows) - 1):
                spot = (place, (2, 3, 1))
                here, steps = spot, 0
                for most in range(40):
                    answer = number_gone(pairs, number_of(spot), most)
                    self.assertEqual(answer, (made_number(here), steps))
                    self.assertEqual((type(answer), type(answer[1])), (tuple, int))
                    after = row_stepped(rows, here)
                    if after is not None:
                        here, steps = after, steps + 1

    def test_thousands_of_steps_to_an_end(self):
        rows = [("take", 0, 1, 3), ("add", 1, 2), ("add", 1, 0), ("stop",)]
        pairs = pairs_of(rows)
        number, steps = number_gone(pairs, number_of((0, (600, 0, 0))), 2000)
        self.assertEqual((spot_of_number(rows, number), steps), ((3, (0, 1200, 0)), 1801))
