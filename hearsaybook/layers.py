"""Layers: all states that may come of one by so many turns, with so many letters lost in all."""

from hearsaybook.outcomes import outcomes


def layers(rules, town, state, turns, lost):
    """For each number of turns, from 0 to turns, the rising tuple of (spent, state)."""
    spent = {state: 0}
    found = [in_order(spent)]
    for turn in range(turns):
        spent = outcomes(rules, town, spent, lost)
        found.append(in_order(spent))
    return tuple(found)


def in_order(spent):
    """The rising tuple of (spent, state)."""
    return tuple(sorted([(many, state) for state, many in spent.items()]))
