"""Layers by walking all rows of lost letters, and cases to hold the program's against."""

import itertools
import random

from hearsaybook.states import begun
from hearsaybook.turns import walked
from tests.reckoned import Reckoned, clause_rows, some_row, some_state, some_town

SMALL = [(2, 3, 3), (2, 4, 2), (2, 2, 6), (2, 8, 1), (3, 1, 3), (3, 2, 2), (3, 3, 1), (3, 1, 2)]


def turn_by_turn(rules, town, state, most):
    """Each state that comes of this one by one turn in which at most so many letters are lost: the least number."""
    found, rest = {}, [()]
    while rest:
        lost = rest.pop()
        reckoned = Reckoned(rules, town, state)
        letters = reckoned.turn_by((lost, (), (), ()))
        behind = reckoned.state()
        found[behind] = min(found.get(behind, most), len(lost))
        if len(lost) < most:
            first = lost[-1] + 1 if lost else 0
            rest += [lost + (number,) for number in range(first, len(letters))]
    return found


def walked_layers(rules, town, state, turns, lost):
    """layers, by walking all rows of lost letters."""
    spent, found = {state: 0}, []
    for turn in range(turns + 1):
        found.append(tuple(sorted((number, each) for each, number in spent.items())))
        following = {}
        for each, number in spent.items():
            for behind, more in turn_by_turn(rules, town, each, lost - number).items():
                following[behind] = min(following.get(behind, lost), number + more)
        spent = following
    return tuple(found)


def some_layers(seed, many, sizes):
    """(rules, town, state, turns, lost) of many kinds, of these sizes (houses, turns, lost)."""
    chance = random.Random(seed)
    for number, clauses in zip(range(many), itertools.cycle(clause_rows())):
        houses, turns, lost = chance.choice(sizes)
        rules = (chance.randint(0, 1), chance.randint(1, 3), chance.randint(0, 3), chance.randint(0, 2), clauses)
        town = some_town(chance, houses, pace=chance.choice((1, 2, 4)))
        state = begun(rules, town)
        if number % 3 == 1:
            state = walked(rules, town, state, some_row(chance, rules, town, state, 6, 0.3, 0.1))[0]
        elif number % 3 == 2:
            state = some_state(chance, rules, town)
        yield rules, town, state, turns, lost


def marks_of(state, house):
    """The marks that the house has in the books of the others that are up."""
    return [each[1][house][1] for at, each in enumerate(state[1]) if at != house and each[0] == 1]


def is_wrong(state):
    """Whether a house that is up is told gone or left at another one that is."""
    return any(state[1][house][0] == 1 and max(marks_of(state, house), default=0) >= 2 for house in range(len(state[1])))


def reckoned_row(rules, town, state, row):
    """The state behind a row, and how many letters were lost by it."""
    reckoned, missed = Reckoned(rules, town, state), 0
    for doings in row:
        missed += len([1 for x, y, lost in reckoned.turn_by(doings) if lost])
    return reckoned.state(), missed


def lost_rows(rows):
    """The row of doings with these lost alone."""
    return tuple((tuple(lost), (), (), ()) for lost in rows)
