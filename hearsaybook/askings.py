"""Letters of a turn, one behind the other, and how one house asks another by them."""

from hearsaybook.letters import notes_of, taken
from hearsaybook.plain import put
from hearsaybook.towns import target, ticks
from hearsaybook.words import ALIVE, GONE, SUSPECT


class Road:
    """The letters that were sent in a turn, and the houses as they are behind these."""

    def __init__(self, rules, town, state, lost):
        turn, houses = state
        self.rules = rules
        self.town = town
        self.turn = turn
        self.houses = list(houses)
        self.lost = lost
        self.letters = []

    def sends(self, x, y):
        """Whether y takes in the letter that x sends to it now."""
        lost = len(self.letters) in self.lost
        self.letters.append((x, y, lost))
        notes, told = notes_of(self.rules, self.town, (self.turn, self.houses), x, y)
        up, book, old, timers = self.houses[x]
        self.houses[x] = (up, book, told, timers)
        if lost or self.houses[y][0] == 0:
            return False
        self.houses[y] = taken(self.rules, self.houses[y], y, notes)
        return True


def asks_any(town, state, a):
    """Whether a asks in this turn at all."""
    turn, houses = state
    return houses[a][0] == 1 and ticks(town, a, turn)


def asked_in_order(town, turn, a):
    """Whom a may ask in a turn in which its clock ticks: its target, then the others by rising numbers."""
    first = target(town, a, turn)
    return [first] + [b for b in range(len(town)) if b != a and b != first]


def asks_now(rules, town, state, a, b):
    """Whether a, when it would ask b in a turn in which its clock ticks, does so."""
    turn, houses = state
    up, book, told, timers = houses[a]
    if b == target(town, a, turn):
        return "again" in rules[4] or is_about(book, b)
    return timers[b] > 0


def is_about(book, house):
    """Whether the house is told alive or suspect in the book."""
    number, mark = book[house]
    return mark < GONE


def ask(road, a, b):
    """Let a ask b, and keep what it makes of it."""
    answered = is_answered(road, a, b)
    road.houses[a] = judged(road.rules, road.houses[a], b, answered)


def is_answered(road, a, b):
    """Whether b answers a's letters, straight or through others."""
    if road.sends(a, b) and road.sends(b, a):
        return True
    up, book, told, timers = road.houses[a]
    if "others" not in road.rules[4] or not is_about(book, b):
        return False
    for h in helpers(road.rules, book, a, b):
        if road.sends(a, h) and road.sends(h, b) and road.sends(b, h) and road.sends(h, a):
            return True
    return False


def helpers(rules, book, a, b):
    """Through whom a asks b, in order."""
    many = len(book)
    behind = [(a + step) % many for step in range(1, many)]
    return [h for h in behind if h != b and is_about(book, h)][:rules[0]]


def judged(rules, house, b, answered):
    """The house behind its asking of b."""
    up, book, told, timers = house
    if answered:
        return (up, book, told, put(timers, b, 0))
    number, mark = book[b]
    if not is_about(book, b):
        return house
    if "wait" not in rules[4] or timers[b] == 1:
        return (up, put(book, b, (number, GONE)), put(told, b, 0), put(timers, b, 0))
    if timers[b] > 1:
        return (up, book, told, put(timers, b, timers[b] - 1))
    if mark == ALIVE:
        book, told = put(book, b, (number, SUSPECT)), put(told, b, 0)
    return (up, book, told, put(timers, b, rules[1]))
