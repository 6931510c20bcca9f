"""Told numbers: how many letters must be lost, how many turns pass, how many letters are sent."""

from hearsaybook.towns import ticks


def safe_number(rules, town):
    """With fewer letters lost than these none is told gone, where all stay up."""
    wait = rules[1]
    return (wait + 1) * (1 + most_helpers(rules, town))


def most_helpers(rules, town):
    """Through how many others a house may be asked, in this town."""
    return min(rules[0], len(town) - 2)


def gone_by(rules, town, house):
    """Behind how many turns this house tells one that stopped gone."""
    pace, start = town[house]
    wait = rules[1]
    return pace * (len(town) - 1 + wait)


def letters_most(rules, town, state, doings):
    """How many letters are sent at most in the turn of these doings."""
    turn, houses = state
    lost, falls, leaves, comes = doings
    asked = 0
    for at, house in enumerate(houses):
        up, book, told, timers = house
        if at not in falls + leaves and (up == 1 or at in comes) and ticks(town, at, turn):
            asked += 1 + len([timer for timer in timers if timer > 0])
    each = 2 + 4 * most_helpers(rules, town)
    return asked * each + (len(town) - 1) * len(leaves + comes)
