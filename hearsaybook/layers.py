"""Layers: all states that may come of one by so many turns, with so many letters lost in all."""

from hearsaybook.outcomes import outcomes


def layers(rules, town, state, turns, lost):
    """For each number of turns, from 0 to turns, the rising tuple of (spent, state)."""
    return in_order(spread(rules, town, state, turns, lost))


def spread(rules, town, state, turns, lost):
    """The list of the layers as dicts: each state with (spent, row), row one by which it comes so."""
    found = [{state: (0, ())}]
    for turn in range(turns):
        found.append(outcomes(rules, town, found[turn], lost))
    return found


def in_order(found):
    """The layers as they are told, of those of spread."""
    return tuple([tuple(sorted([(spent, state) for state, (spent, row) in layer.items()])) for layer in found])
