"""Two piles (point 5): the signs on each side of the head as one number.

A pile is (room, under, low, high); low stands for the left, high for the right.
"""

from downstair.tapes import LEFT, rule_for


def piled(machine, stand):
    signs = machine[1]
    return (stand[0], stand[2], number_of_side(signs, stand[1]), number_of_side(signs, stand[3]))


def unpiled(machine, pile):
    signs = machine[1]
    return (pile[0], side_of_number(signs, pile[2]), pile[1], side_of_number(signs, pile[3]))


def pile_stepped(machine, pile):
    signs = machine[1]
    low = pile[2]
    high = pile[3]
    rule = rule_for(machine, pile[0], pile[1])
    if rule is None:
        return None
    write = rule[0]
    room = rule[2]
    if rule[1] == LEFT:
        return (room, low % signs, low // signs, high * signs + write)
    return (room, high % signs, low * signs + write, high // signs)


def number_of_side(signs, side):
    number = 0
    # The nearest sign counts least, so the farthest is taken first.
    for sign in reversed(side):
        number = number * signs + sign
    return number


def side_of_number(signs, number):
    side = []
    rest = number
    while rest > 0:
        side.append(rest % signs)
        rest = rest // signs
    return tuple(side)
