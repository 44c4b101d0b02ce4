"""Machines, stands and a plain tape for the tests."""

from itertools import product


def made_machine(rooms, signs, gap):
    """A machine with all sorts of rules, each one in gap None."""
    rules = []
    for place in range(rooms * signs):
        if place % gap == gap - 1:
            rules.append(None)
        else:
            rules.append(((place * 5 + 1) % signs, (place + place // 3) % 2, (place * 7 + 3) % rooms))
    return (rooms, signs, tuple(rules))


RUNNER = (1, 2, ((1, 1, 0), None))
NEVER_ENDING = (1, 2, ((1, 0, 0), (0, 1, 0)))
# The busy beaver of three rooms: 21 steps from the empty tape to its end, with five signs 1 left behind.
BEAVER = (4, 2, (
    (1, 1, 1), (1, 1, 3),
    (1, 0, 1), (0, 1, 2),
    (1, 0, 2), (1, 0, 0),
    None, None,
))
SMALL = made_machine(1, 3, 4)
MIDDLE = made_machine(3, 3, 5)
LARGE = made_machine(6, 4, 7)
MACHINES = (RUNNER, NEVER_ENDING, BEAVER, SMALL, MIDDLE, LARGE)


def sides(signs, longest):
    """All tuples of at most so many signs whose last one is not 0."""
    found = []
    for length in range(longest + 1):
        found.extend(side for side in product(range(signs), repeat=length) if not side or side[-1] != 0)
    return found


def stands(machine, longest):
    rooms, signs, rules = machine
    return list(product(range(rooms), sides(signs, longest), range(signs), sides(signs, longest)))


def tape_stepped(machine, stand):
    """A step on a tape of numbered places, done without the program."""
    rooms, signs, rules = machine
    room, left, under, right = stand
    rule = rules[room * signs + under]
    if rule is None:
        return None
    tape = dict(enumerate(right, start=1))
    tape.update({-place: sign for place, sign in enumerate(left, start=1)})
    write, way, room = rule
    tape[0] = write
    head = {0: -1, 1: 1}[way]
    longest = len(left) + len(right) + 2
    return (room, row_from(tape, head, -1, longest), tape.get(head, 0), row_from(tape, head, 1, longest))


def row_from(tape, head, way, longest):
    row = [tape.get(head + way * count, 0) for count in range(1, longest + 1)]
    while row and row[-1] == 0:
        row.pop()
    return tuple(row)


def kinds_of_stand(stand):
    """The kinds of all parts of a stand, tuples within it too."""
    room, left, under, right = stand
    return (type(stand), type(room), type(left), type(under), type(right),
            {type(sign) for sign in left + right} - {int})


STAND_KINDS = (tuple, int, tuple, int, tuple, set())
