"""Broken promises: rows of turns by which they break, where a clause of the rules is left out."""

from hearsaybook.breaklooks import is_gone_too_soon, stays_apart
from hearsaybook.outcomes import keep_least, outcomes
from hearsaybook.rules import whole_rules, without
from hearsaybook.states import begun
from hearsaybook.turns import done
from hearsaybook.views import elder_in

# For each clause (others, town, what, row), with wait 1 and no news, and why the promise breaks without it.
EXAMPLES = {
    # House 1 refutes to 0 alone, then falls: 0 and 2 tell it gone by unlike words, which they never tell on.
    "about": (0, ((1, 0), (2, 0), (2, 1)), "apart", (((0,), (), (), ()), ((), (), (), ()), ((), (1,), (), ()))),
    # Each tells the other gone, and nobody asks any more.
    "again": (0, ((1, 0), (1, 0)), "apart", (((0, 1), (), (), ()), ((0, 1), (), (), ()))),
    # House 1 suspects 0, which doesn't know of it and tells its own elder word.
    "newer": (0, ((1, 0), (1, 0)), "elder", (((2,), (), (), ()), ((), (), (), ()))),
    # House 0 asks 1 straight alone: so two lost letters do.
    "others": (1, ((1, 0), (4, 3), (4, 3)), "gone", (((0,), (), (), ()), ((2,), (), (), ()))),
    # House 1 refutes, but 0 never hears its newer word.
    "own": (0, ((1, 0), (4, 3)), "apart", (((0,), (), (), ()),)),
    # House 1 never says anything newer than that it is suspect.
    "refute": (0, ((1, 0), (4, 3)), "apart", (((0,), (), (), ()),)),
    # House 1 is told gone as soon as it doesn't answer.
    "wait": (0, ((1, 0), (4, 3)), "gone", (((0,), (), (), ()),)),
}


def breaks(rules, town, turns, lost):
    """A break (what, row) of at most so many turns, at most so many letters lost in all, or None."""
    layer = {begun(rules, town): (0, ())}
    for turn in range(turns):
        following = {}
        for state, told in layer.items():
            for behind, (spent, row) in follows(rules, town, state, told, lost):
                what = broken(rules, town, state, behind, spent)
                if what is not None:
                    return (what, row)
                keep_least(following, behind, (spent, row))
        layer = following
    return None


def follows(rules, town, state, told, lost):
    """The (state, (spent, row)) of all that comes of a state by one turn, in which one house may fall."""
    found = list(outcomes(rules, town, {state: told}, lost).items())
    turn, houses = state
    if all([up == 1 for up, book, old, timers in houses]):
        for house in range(len(houses)):
            found += fall_follows(rules, town, state, told, lost, house)
    return found


def fall_follows(rules, town, state, told, lost, house):
    """The same where this house falls in that turn."""
    turn, houses = state
    fell = (turn, done(houses, ((), (house,), (), ())))
    found = []
    for behind, (spent, row) in outcomes(rules, town, {fell: told}, lost).items():
        numbers = row[-1][0]
        found.append((behind, (spent, row[:-1] + ((numbers, (house,), (), ()),))))
    return found


def broken(rules, town, state, behind, lost):
    """What is broken when the one state comes of the other by a turn, so many letters being lost in all, or None."""
    if is_gone_too_soon(rules, town, behind, lost):
        return "gone"
    if elder_in(state, behind) is not None:
        return "elder"
    if stays_apart(rules, town, behind):
        return "apart"
    return None


def example(clause):
    """(rules, town, thing): whole rules without this clause, and a break (what, row) of them in this town."""
    others, town, what, row = EXAMPLES[clause]
    return (without(whole_rules(others, 1, 0, 0), clause), town, (what, row))
