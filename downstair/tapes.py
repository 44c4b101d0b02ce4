"""The tape (points 2 to 4): machines, stands and their steps.

A machine is (rooms, signs, rules), a rule None or (write, way, room), a stand (room, left, under, right).
"""

from downstair.errors import NoMachine
from downstair.walks import walked

FEWEST_ROOMS = 1
MOST_ROOMS = 6
FEWEST_SIGNS = 2
MOST_SIGNS = 4
LEFT = 0
RIGHT = 1


def looked(machine):
    rooms = machine[0]
    signs = machine[1]
    rules = machine[2]
    # The words of a refusal hold no number: Python may decline to write out a very great one.
    if not FEWEST_ROOMS <= rooms <= MOST_ROOMS:
        raise NoMachine("a machine has 1 to 6 rooms")
    if not FEWEST_SIGNS <= signs <= MOST_SIGNS:
        raise NoMachine("a machine has 2 to 4 signs")
    if len(rules) != rooms * signs:
        raise NoMachine("a machine has one rule for each sign in each room")
    told = [rule for rule in rules if rule is not None]
    for rule in told:
        look_at_rule(rooms, signs, rule)
    return len(told)


def look_at_rule(rooms, signs, rule):
    if not 0 <= rule[0] < signs:
        raise NoMachine("a rule writes a sign that the machine does not have")
    if not LEFT <= rule[1] <= RIGHT:
        raise NoMachine("a rule goes neither to the left nor to the right")
    if not 0 <= rule[2] < rooms:
        raise NoMachine("a rule leads to a room that the machine does not have")


def rule_for(machine, room, sign):
    signs = machine[1]
    rules = machine[2]
    return rules[room * signs + sign]


def begun(word):
    return (0, (), nearest(word), trimmed(word[1:]))


def stepped(machine, stand):
    left = stand[1]
    right = stand[3]
    rule = rule_for(machine, stand[0], stand[2])
    if rule is None:
        return None
    write = rule[0]
    room = rule[2]
    if rule[1] == LEFT:
        return (room, left[1:], nearest(left), trimmed((write,) + right))
    return (room, trimmed((write,) + left), nearest(right), right[1:])


def gone(machine, stand, most):
    return walked(stepped, machine, stand, most)


def nearest(side):
    # The tape goes on with noughts where the signs told of it end.
    return side[0] if len(side) > 0 else 0


def trimmed(side):
    # A stand has only one form: no tuple of it ends with a nought.
    end = len(side)
    while end > 0 and side[end - 1] == 0:
        end = end - 1
    return side[:end]
