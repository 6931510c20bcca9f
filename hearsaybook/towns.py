"""Towns: a clock (pace, start) for each house."""

from hearsaybook.plain import is_between, is_tuple_of
from hearsaybook.words import FEWEST_HOUSES, MOST_HOUSES

MOST_PACE = 4


def is_town(thing):
    """Whether it is a town; of anything."""
    if not isinstance(thing, tuple):
        return False
    return FEWEST_HOUSES <= len(thing) <= MOST_HOUSES and all([is_clock(clock) for clock in thing])


def is_clock(thing):
    """Whether it is a clock (pace, start); of anything."""
    if not is_tuple_of(thing, 2):
        return False
    pace, start = thing
    return is_between(pace, 1, MOST_PACE) and is_between(start, 0, pace - 1)


def ticks(town, house, turn):
    """Whether the house's clock ticks in this turn."""
    pace, start = town[house]
    return turn >= start and (turn - start) % pace == 0


def ticks_by(town, house, turn):
    """How many ticks the house's clock had in this turn and all ahead."""
    pace, start = town[house]
    if turn < start:
        return 0
    return (turn - start) // pace + 1


def target(town, house, turn):
    """Whom the house asks first in this turn, in which its clock ticks."""
    many = len(town)
    ahead = ticks_by(town, house, turn) - 1
    return (house + 1 + ahead % (many - 1)) % many


def cycle(town):
    """The least number that each pace times n times n - 1 divides, n houses being there."""
    many = len(town)
    least = 1
    for pace, start in town:
        least = least_shared(least, pace)
    return least * many * (many - 1)


def least_shared(one, other):
    """The least number from 1 that both divide."""
    number = one
    while number % other != 0:
        number += one
    return number
