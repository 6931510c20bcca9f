"""Turns: what comes of a state by its doings, and the letters that are sent."""

from hearsaybook.askings import Road, ask, asked_in_order, asks_any, asks_now
from hearsaybook.doings import is_doings
from hearsaybook.errors import BadDoings
from hearsaybook.plain import put
from hearsaybook.words import ALIVE, LEFT


def stepped(rules, town, state, doings):
    """The state behind the turn, and all letters sent in it, in order: (from, to, lost)."""
    turn, houses = state
    lost, falls, leaves, comes = doings
    road = Road(rules, town, (turn, done(houses, doings)), lost)
    for x in leaves + comes:
        write_to_all(road, x)
    for x in leaves:
        up, book, told, timers = road.houses[x]
        road.houses[x] = (0, book, told, timers)
    for a in range(len(town)):
        if asks_any(town, (turn, road.houses), a):
            ask_all(road, a)
    return ((turn + 1, tuple(road.houses)), tuple(road.letters))


def done(houses, doings):
    """The houses when some fell, some say that they leave and some came, ahead of all letters."""
    lost, falls, leaves, comes = doings
    behind = []
    for at, house in enumerate(houses):
        up, book, told, timers = house
        number, mark = book[at]
        if at in falls:
            house = (0, book, told, (0,) * len(timers))
        elif at in leaves:
            house = (up, put(book, at, (number, LEFT)), put(told, at, 0), (0,) * len(timers))
        elif at in comes:
            house = (1, put(book, at, (number + 1, ALIVE)), put(told, at, 0), timers)
        behind.append(house)
    return tuple(behind)


def write_to_all(road, x):
    """Let x send a letter to each other house."""
    for y in range(len(road.town)):
        if y != x:
            road.sends(x, y)


def ask_all(road, a):
    """Let a ask its target and all for which it has a timer."""
    for b in asked_in_order(road.town, road.turn, a):
        if asks_now(road.rules, road.town, (road.turn, road.houses), a, b):
            ask(road, a, b)


def walked(rules, town, state, row):
    """The state behind a row of doings, and the tuple of each turn's letters."""
    sent = []
    for behind, letters in trail(rules, town, state, row):
        state = behind
        sent.append(letters)
    return (state, tuple(sent))


def trail(rules, town, state, row):
    """The list of (state, letters) behind each turn of a row of doings."""
    steps = []
    for at, doings in enumerate(row):
        if not is_doings(state, doings):
            raise BadDoings(at)
        state, letters = stepped(rules, town, state, doings)
        steps.append((state, letters))
    return steps
