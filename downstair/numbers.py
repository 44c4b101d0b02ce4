"""One number (points 10 to 12): a spot as a product of primes, a row as pairs of numbers.

The first primes stand for the counters, those behind them for the places of the rows.
"""

from downstair.counters import ADD, COUNTERS, STOP
from downstair.walks import walked


def primes(many):
    found = []
    number = 2
    while len(found) < many:
        if is_prime(number, found):
            found.append(number)
        number = number + 1
    return found


def is_prime(number, smaller):
    # What is no prime has a prime factor whose square is not above it.
    for prime in smaller:
        if prime * prime > number:
            break
        if number % prime == 0:
            return False
    return True


def pairs_of(rows):
    found = primes(COUNTERS + len(rows))
    pairs = []
    for place in range(len(rows)):
        pairs.extend(pairs_of_row(found, place, rows[place]))
    return pairs


def pairs_of_row(found, place, row):
    if row[0] == STOP:
        return []
    here = found[COUNTERS + place]
    counter = found[row[1]]
    to = found[COUNTERS + row[2]]
    if row[0] == ADD:
        return [(counter * to, here)]
    # The pair that takes comes first: the other one would always fit.
    return [(to, here * counter), (found[COUNTERS + row[3]], here)]


def number_of(spot):
    place = spot[0]
    counts = spot[1]
    found = primes(COUNTERS + place + 1)
    number = found[COUNTERS + place]
    for counter in range(COUNTERS):
        number = number * powered(found[counter], counts[counter])
    return number


def spot_of_number(rows, number):
    # Nought holds every prime without end, so it must not be divided.
    if number < 1:
        return None
    found = primes(COUNTERS + len(rows))
    places = found[COUNTERS:]
    counts = []
    rest = number
    for counter in range(COUNTERS):
        many = times_within(found[counter], rest)
        rest = rest // powered(found[counter], many)
        counts.append(many)
    if rest not in places:
        return None
    return (places.index(rest), tuple(counts))


def number_stepped(pairs, number):
    for pair in pairs:
        if number % pair[1] == 0:
            return number // pair[1] * pair[0]
    return None


def number_gone(pairs, number, most):
    return walked(number_stepped, pairs, number, most)


def powered(base, times):
    # By halves, as a counter may tell of very many factors.
    if times < 1:
        return 1
    half = powered(base, times // 2)
    return half * half * base if times % 2 == 1 else half * half


def times_within(prime, number):
    # For the same reason by its powers 1, 2, 4, 8 and so on, from the greatest down.
    squares = [prime]
    while number % squares[-1] == 0:
        squares.append(squares[-1] * squares[-1])
    rest = number
    times = 0
    for square in reversed(squares):
        times = times * 2
        if rest % square == 0:
            rest = rest // square
            times = times + 1
    return times
