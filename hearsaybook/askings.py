"""How one house asks another: the letters that are sent, and what the asker makes of it."""

from hearsaybook.letters import notes_of, taken
from hearsaybook.plain import put
from hearsaybook.towns import target, ticks
from hearsaybook.words import ALIVE, GONE, SUSPECT


def posted(rules, town, state, x, y):
    """The state when x has sent y a letter that isn't taken in, and the one when it is (None if y isn't up)."""
    turn, houses = state
    notes, told = notes_of(rules, town, state, x, y)
    up, book, old, timers = houses[x]
    missed = (turn, put(houses, x, (up, book, told, timers)))
    if houses[y][0] == 0:
        return (missed, None)
    return (missed, with_house(missed, y, taken(rules, houses[y], y, notes)))


def with_house(state, at, house):
    """The state with this house at its place."""
    turn, houses = state
    return (turn, put(houses, at, house))


def asks_any(town, state, a):
    """Whether a asks in this turn at all."""
    turn, houses = state
    return houses[a][0] == 1 and ticks(town, a, turn)


def asked_in_order(town, turn, a):
    """Whom a may ask in a turn in which its clock ticks: its target, then the others by rising numbers."""
    first = target(town, a, turn)
    return [first] + [b for b in range(len(town)) if b != a and b != first]


def asks_now(rules, town, state, a, b):
    """Whether a, when it would ask b in a turn in which its clock ticks, does so."""
    turn, houses = state
    up, book, told, timers = houses[a]
    if b == target(town, a, turn):
        return "again" in rules[4] or is_about(book, b)
    return timers[b] > 0


def is_about(book, house):
    """Whether the house is told alive or suspect in the book."""
    number, mark = book[house]
    return mark < GONE


def ways(rules, state, a, b):
    """The ways by which a asks b, straight and through others, each the letters (from, to) that must come."""
    # Until it is answered a takes in no letter: so its book tells ahead of the first one whom it asks through.
    turn, houses = state
    up, book, told, timers = houses[a]
    found = [((a, b), (b, a))]
    if "others" in rules[4] and is_about(book, b):
        found += [((a, h), (h, b), (b, h), (h, a)) for h in helpers(rules, book, a, b)]
    return found


def helpers(rules, book, a, b):
    """Through whom a asks b, in order."""
    many = len(book)
    behind = [(a + step) % many for step in range(1, many)]
    return [h for h in behind if h != b and is_about(book, h)][:rules[0]]


def judged(rules, state, a, b, answered):
    """The state when a has kept whether b answered."""
    turn, houses = state
    up, book, told, timers = houses[a]
    number, mark = book[b]
    if answered:
        timers = put(timers, b, 0)
    elif mark < GONE and ("wait" not in rules[4] or timers[b] == 1):
        book, told, timers = put(book, b, (number, GONE)), put(told, b, 0), put(timers, b, 0)
    elif mark < GONE and timers[b] == 0:
        if mark == ALIVE:
            book, told = put(book, b, (number, SUSPECT)), put(told, b, 0)
        timers = put(timers, b, rules[1])
    elif mark < GONE:
        timers = put(timers, b, timers[b] - 1)
    return with_house(state, a, (up, book, told, timers))
