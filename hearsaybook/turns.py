"""Turns: what comes of a state by its doings, and the letters that are sent."""

from hearsaybook.askings import asked_in_order, asks_any, asks_now, judged, posted, ways, with_house
from hearsaybook.doings import is_doings
from hearsaybook.errors import BadDoings
from hearsaybook.plain import put
from hearsaybook.words import ALIVE, LEFT


class Road:
    """The letters that were sent in a turn by now, and the state behind them."""

    def __init__(self, rules, town, state, lost):
        self.rules = rules
        self.town = town
        self.state = state
        self.lost = lost
        self.letters = []

    def sends(self, x, y):
        """Whether y takes in the letter that x sends to it now."""
        lost = len(self.letters) in self.lost
        self.letters.append((x, y, lost))
        missed, came = posted(self.rules, self.town, self.state, x, y)
        if lost or came is None:
            self.state = missed
            return False
        self.state = came
        return True


def stepped(rules, town, state, doings):
    """The state behind the turn, and all letters sent in it, in order: (from, to, lost)."""
    turn, houses = state
    lost, falls, leaves, comes = doings
    road = Road(rules, town, (turn, done(houses, doings)), lost)
    for x in leaves + comes:
        write_to_all(road, x)
    for x in leaves:
        stop(road, x)
    for a in range(len(town)):
        if asks_any(town, road.state, a):
            ask_all(road, a)
    turn, houses = road.state
    return ((turn + 1, houses), tuple(road.letters))


def done(houses, doings):
    """The houses when some fell, some say that they leave and some came, ahead of all letters."""
    lost, falls, leaves, comes = doings
    behind = []
    for at, house in enumerate(houses):
        up, book, told, timers = house
        number, mark = book[at]
        if at in falls:
            house = (0, book, told, (0,) * len(timers))
        elif at in leaves:
            house = (up, put(book, at, (number, LEFT)), put(told, at, 0), (0,) * len(timers))
        elif at in comes:
            house = (1, put(book, at, (number + 1, ALIVE)), put(told, at, 0), timers)
        behind.append(house)
    return tuple(behind)


def write_to_all(road, x):
    """Let x send a letter to each other house."""
    for y in range(len(road.town)):
        if y != x:
            road.sends(x, y)


def stop(road, x):
    """Let x be no longer up."""
    turn, houses = road.state
    up, book, told, timers = houses[x]
    road.state = with_house(road.state, x, (0, book, told, timers))


def ask_all(road, a):
    """Let a ask its target and all for which it has a timer, and keep what it makes of it."""
    turn, houses = road.state
    for b in asked_in_order(road.town, turn, a):
        if asks_now(road.rules, road.town, road.state, a, b):
            answered = is_answered(road, a, b)
            road.state = judged(road.rules, road.state, a, b, answered)


def is_answered(road, a, b):
    """Whether b answers a's letters, straight or through others."""
    for way in ways(road.rules, road.state, a, b):
        if comes_through(road, way):
            return True
    return False


def comes_through(road, way):
    """Whether all letters of a way are taken in, one behind the other."""
    for x, y in way:
        if not road.sends(x, y):
            return False
    return True


def walked(rules, town, state, row):
    """The state behind a row of doings, and the tuple of each turn's letters."""
    sent = []
    for behind, letters in trail(rules, town, state, row):
        state = behind
        sent.append(letters)
    return (state, tuple(sent))


def trail(rules, town, state, row):
    """The list of (state, letters) behind each turn of a row of doings."""
    steps = []
    for at, doings in enumerate(row):
        if not is_doings(state, doings):
            raise BadDoings(at)
        state, letters = stepped(rules, town, state, doings)
        steps.append((state, letters))
    return steps


def lost_in(sent):
    """How many letters were lost, of the letters of several turns."""
    return len([lost for letters in sent for x, y, lost in letters if lost])
