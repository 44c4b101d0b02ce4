"""Counters (point 6): rows that add to and take from three counters.

A row is ("add", counter, to), ("take", counter, to, other) or ("stop",), a spot (place, counts).
"""

from downstair.walks import walked

ADD = "add"
TAKE = "take"
STOP = "stop"
COUNTERS = 3


def spot_stepped(rows, spot):
    counts = spot[1]
    row = rows[spot[0]]
    if row[0] == STOP:
        return None
    counter = row[1]
    to = row[2]
    if row[0] == ADD:
        return (to, counted(counts, counter, 1))
    if counts[counter] == 0:
        return (row[3], counts)
    return (to, counted(counts, counter, -1))


def spot_gone(rows, spot, most):
    return walked(spot_stepped, rows, spot, most)


def counted(counts, counter, change):
    return counts[:counter] + (counts[counter] + change,) + counts[counter + 1:]
