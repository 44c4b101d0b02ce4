"""The rows of a machine (points 7 to 9): one block of rows for each rule, and the way from stands to spots and back.

A block multiplies the far count by the number of signs, adds the sign written, divides the near count by the
number of signs, and leaves for the block of the sign that the division left over.
"""

from downstair.counters import ADD, STOP, TAKE
from downstair.piles import piled, unpiled
from downstair.tapes import rule_for

# The counters that the way of a rule, 0 or 1, makes near and far.
NEAR = (0, 1)
FAR = (1, 0)
SPARE = 2


def rows_of(machine):
    rows = []
    for rule in machine[2]:
        rows.extend(block(machine, rule, len(rows)))
    return rows


def block(machine, rule, begin):
    if rule is None:
        return [(STOP,)]
    signs = machine[1]
    near = NEAR[rule[1]]
    far = FAR[rule[1]]
    rows = multiplying(signs, far, begin)
    rows.extend(writing(rule[0], far, begin + len(rows)))
    rows.extend(dividing(signs, near, begin + len(rows)))
    rows.extend(leaving(machine, rule[2], near, begin + len(rows)))
    return rows


def multiplying(signs, far, begin):
    back = begin + signs + 1
    rows = [(TAKE, far, begin + 1, back)]
    rows.extend([(ADD, SPARE, place + 1) for place in range(begin + 1, begin + signs)])
    rows.append((ADD, SPARE, begin))
    rows.append((TAKE, SPARE, back + 1, back + 2))
    rows.append((ADD, far, back))
    return rows


def writing(write, far, begin):
    return [(ADD, far, place + 1) for place in range(begin, begin + write)]


def dividing(signs, near, begin):
    # Where the near count gives out, as many as were taken are the sign that comes under the head.
    leave = begin + signs + 1
    rows = [(TAKE, near, begin + taken + 1, leave + 2 * taken) for taken in range(signs)]
    rows.append((ADD, SPARE, begin))
    return rows


def leaving(machine, room, near, begin):
    rows = []
    for sign in range(machine[1]):
        place = begin + 2 * sign
        rows.append((TAKE, SPARE, place + 1, entry(machine, room, sign)))
        rows.append((ADD, near, place))
    return rows


def entry(machine, room, sign):
    return entries(machine)[room * machine[1] + sign]


def entries(machine):
    places = []
    place = 0
    for rule in machine[2]:
        places.append(place)
        place = place + block_length(machine[1], rule)
    return places


def block_length(signs, rule):
    # Told without the block itself: a block names entries of blocks that are not made yet.
    return 1 if rule is None else 4 * signs + 4 + rule[0]


def spot_of(machine, stand):
    pile = piled(machine, stand)
    return (entry(machine, pile[0], pile[1]), (pile[2], pile[3], 0))


def stand_of(machine, spot):
    signs = machine[1]
    counts = spot[1]
    places = entries(machine)
    if counts[SPARE] != 0 or spot[0] not in places:
        return None
    told = places.index(spot[0])
    return unpiled(machine, (told // signs, told % signs, counts[0], counts[1]))


def cost(machine, stand):
    signs = machine[1]
    rule = rule_for(machine, stand[0], stand[2])
    if rule is None:
        return None
    counts = spot_of(machine, stand)[1]
    near = counts[NEAR[rule[1]]]
    far = counts[FAR[rule[1]]]
    return far * (3 * signs + 1) + near // signs * (signs + 3) + near % signs + rule[0] + 4
