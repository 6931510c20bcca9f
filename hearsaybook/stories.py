"""What is told of a row of doings from begun on."""

from hearsaybook.states import begun
from hearsaybook.turns import trail, walked


def counted(rules, town, row):
    """For each house (sent, lost): how many letters it sent, and how many of these were lost."""
    state, turns = walked(rules, town, begun(rules, town), row)
    sent = [0] * len(town)
    missed = [0] * len(town)
    for letters in turns:
        for x, y, lost in letters:
            sent[x] += 1
            if lost:
                missed[x] += 1
    return tuple(zip(sent, missed))


def tellings(rules, town, row, house):
    """The (turn, teller, word) of each house that, up behind a turn, has another word of this one than ahead of it."""
    state = begun(rules, town)
    told = []
    for behind, letters in trail(rules, town, state, row):
        told += changes(state, behind, house)
        state = behind
    return tuple(told)


def changes(state, behind, house):
    """The tellings of one turn."""
    turn, houses = state
    pairs = list(zip(houses, behind[1]))
    return [(turn, at, now[1][house]) for at, (then, now) in enumerate(pairs)
            if now[0] == 1 and now[1][house] != then[1][house]]
