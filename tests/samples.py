"""Machines and stands for the tests, and plain ways of doing what the program does, without the program."""

from itertools import product


def made_machine(rooms, signs, gap):
    """A machine with all sorts of rules, each one in gap None."""
    rules = []
    for place in range(rooms * signs):
        if place % gap == gap - 1:
            rules.append(None)
        else:
            rules.append(((place * 5 + 1) % signs, (place + place // 3) % 2, (place * 7 + 3) % rooms))
    return (rooms, signs, tuple(rules))


def varied_machine(signs):
    """A machine of three rooms that writes every sign both ways, with a None behind each two rules."""
    rules = []
    for write in range(signs):
        rules.extend([(write, 0, (write + 1) % 3), (write, 1, (2 * write + 2) % 3), None])
    return (3, signs, tuple(rules))


RUNNER = (1, 2, ((1, 1, 0), None))
NEVER_ENDING = (1, 2, ((1, 0, 0), (0, 1, 0)))
# The busy beaver of three rooms: 21 steps from the empty tape to its end, with five signs 1 left behind.
BEAVER = (4, 2, (
    (1, 1, 1), (1, 1, 3),
    (1, 0, 1), (0, 1, 2),
    (1, 0, 2), (1, 0, 0),
    None, None,
))
SMALL = made_machine(1, 3, 4)
MIDDLE = made_machine(3, 3, 5)
LARGE = made_machine(6, 4, 7)
VARIED = (varied_machine(2), varied_machine(3), varied_machine(4))
MACHINES = (RUNNER, NEVER_ENDING, BEAVER, SMALL, MIDDLE, LARGE) + VARIED


def sides(signs, longest):
    """All tuples of at most so many signs whose last one is not 0."""
    found = []
    for length in range(longest + 1):
        found.extend(side for side in product(range(signs), repeat=length) if not side or side[-1] != 0)
    return found


def stands(machine, longest):
    rooms, signs, rules = machine
    return list(product(range(rooms), sides(signs, longest), range(signs), sides(signs, longest)))


def tape_stepped(machine, stand):
    """A step on a tape of numbered places, done without the program."""
    rooms, signs, rules = machine
    room, left, under, right = stand
    rule = rules[room * signs + under]
    if rule is None:
        return None
    tape = dict(enumerate(right, start=1))
    tape.update({-place: sign for place, sign in enumerate(left, start=1)})
    write, way, room = rule
    tape[0] = write
    head = {0: -1, 1: 1}[way]
    longest = len(left) + len(right) + 2
    return (room, row_from(tape, head, -1, longest), tape.get(head, 0), row_from(tape, head, 1, longest))


def row_from(tape, head, way, longest):
    row = [tape.get(head + way * count, 0) for count in range(1, longest + 1)]
    while row and row[-1] == 0:
        row.pop()
    return tuple(row)


def figures(signs, side):
    return sum(sign * signs ** place for place, sign in enumerate(side))


def pile_of(machine, stand):
    room, left, under, right = stand
    return (room, under, figures(machine[1], left), figures(machine[1], right))


def kinds_of_stand(stand):
    """The kinds of all parts of a stand, tuples within it too."""
    room, left, under, right = stand
    return (type(stand), type(room), type(left), type(under), type(right),
            {type(sign) for sign in left + right} - {int})


STAND_KINDS = (tuple, int, tuple, int, tuple, set())

# Rows of all kinds on all counters, to places before, behind and their own.
ROWS = [
    ("add", 0, 1), ("take", 1, 0, 2), ("add", 2, 5), ("take", 2, 3, 0), ("add", 1, 1), ("take", 0, 7, 6),
    ("stop",), ("take", 2, 4, 8), ("add", 1, 3), ("stop",), ("take", 0, 9, 10),
]
COUNTS = (
    (0, 0, 0), (1, 0, 0), (0, 1, 0), (0, 0, 1), (1, 1, 1), (2, 0, 5), (0, 3, 2), (4, 1, 0), (3, 2, 4), (10, 20, 30),
)


def row_stepped(rows, spot):
    """A step of the rows on a list of counts, done without the program."""
    place, counts = spot
    left = list(counts)
    kind, *told = rows[place]
    if kind == "stop":
        return None
    if kind == "add":
        counter, to = told
        left[counter] += 1
        return (to, tuple(left))
    counter, to, other = told
    if left[counter] == 0:
        return (other, tuple(left))
    left[counter] -= 1
    return (to, tuple(left))


def table_entries(machine):
    """The entries of a machine in the order of its rules, and the place behind the last block."""
    rooms, signs, rules = machine
    places = [0]
    for rule in rules:
        # Counted along the table: far to 2, back again, the sign written, near to 2, and s ways back again.
        length = 1 if rule is None else (1 + signs) + 2 + rule[0] + (signs + 1) + 2 * signs
        places.append(places[-1] + length)
    return places


def table_rows(machine):
    """The rows of a machine by their places, put down as the document's table tells them."""
    rooms, s, rules = machine
    entries = table_entries(machine)
    rows = {}
    for rule, b in zip(rules, entries):
        if rule is None:
            rows[b] = ("stop",)
            continue
        write, way, room = rule
        near, far = {0: (0, 1), 1: (1, 0)}[way]
        rows[b] = ("take", far, b + 1, b + s + 1)
        for place in range(b + 1, b + s + 1):
            rows[place] = ("add", 2, b if place == b + s else place + 1)
        rows[b + s + 1] = ("take", 2, b + s + 2, b + s + 3)
        rows[b + s + 2] = ("add", far, b + s + 1)
        d = b + s + 3 + write
        for place in range(b + s + 3, d):
            rows[place] = ("add", far, place + 1)
        for place in range(d, d + s):
            taken = place - d
            rows[place] = ("take", near, place + 1, d + s + 1 + 2 * taken)
        rows[d + s] = ("add", 2, d)
        for r in range(s):
            x = d + s + 1 + 2 * r
            rows[x] = ("take", 2, x + 1, entries[room * s + r])
            rows[x + 1] = ("add", near, x)
    return [rows[place] for place in range(entries[-1])]
