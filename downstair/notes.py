"""Writing (point 13): a machine as a text, and the machine that a text writes."""

from downstair.errors import NoMachine, NoNote
from downstair.tapes import looked

FIGURES = "0123456789"
# The sign of a way stands at the way's place.
WAYS = "<>"
NO_RULE = "-"


def shown(machine):
    rooms = machine[0]
    signs = machine[1]
    words = [f"{rooms} {signs}:"]
    words.extend([shown_rule(rule) for rule in machine[2]])
    return " ".join(words)


def shown_rule(rule):
    if rule is None:
        return NO_RULE
    write = rule[0]
    way = WAYS[rule[1]]
    room = rule[2]
    return f"{write}{way}{room}"


def read(text):
    # A blank too many makes an empty word, which is neither a figure nor a rule.
    words = text.split(" ")
    if len(words) < 2 or not words[1].endswith(":"):
        raise NoNote("a note begins with rooms, a blank, signs and a colon")
    rooms = figure(words[0])
    signs = figure(words[1][:-1])
    machine = (rooms, signs, tuple([rule_of(word) for word in words[2:]]))
    try:
        looked(machine)
    except NoMachine as error:
        raise NoNote("a note of what is no machine") from error
    return machine


def rule_of(word):
    if word == NO_RULE:
        return None
    if len(word) != 3 or word[1] not in WAYS:
        raise NoNote("a rule is written as a sign, a way and a room")
    return (figure(word[0]), WAYS.index(word[1]), figure(word[2]))


def figure(word):
    # Not by isdigit, which takes figures of other scripts too.
    if len(word) != 1 or word not in FIGURES:
        raise NoNote("a number is written by one figure")
    return FIGURES.index(word)
