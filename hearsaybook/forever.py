"""Whether a house is ever told gone wrongly, with so many letters lost in each turn at most."""

from hearsaybook.likes import like_of
from hearsaybook.outcomes import outcomes
from hearsaybook.states import begun, is_state
from hearsaybook.views import gone_wrongly


def forever(rules, town, each, most):
    """("wrong", row), ("safe", paper), or None where there are more than most likes."""
    rows = {like_of(town, begun(rules, town)): ()}
    last = dict(rows)
    while last:
        last = fresh_likes(rules, town, each, rows, last)
        wrong = [row for like, row in last.items() if gone_wrongly(like)]
        if wrong:
            return ("wrong", min(wrong))
        rows.update(last)
        if len(rows) > most:
            return None
    return ("safe", tuple(sorted(rows)))


def fresh_likes(rules, town, each, known, last):
    """The likes that come of the last ones by one turn and aren't known, each with a row by which it comes."""
    found = {}
    for state, (lost, row) in comes_of(rules, town, each, last).items():
        like = like_of(town, state)
        if like not in known:
            found[like] = row
    return found


def comes_of(rules, town, each, rows):
    """Each state that comes of these by one turn in which at most each letters are lost, as outcomes tells it."""
    return outcomes(rules, town, {state: (0, row) for state, row in rows.items()}, each)


def shows_forever(rules, town, each, thing):
    """Whether by these likes no house is ever gone wrongly; of anything as thing."""
    if not (isinstance(thing, tuple) and all([is_like(rules, town, like) for like in thing])):
        return False
    rows = {like: () for like in thing}
    if like_of(town, begun(rules, town)) not in rows or any([gone_wrongly(like) for like in rows]):
        return False
    return all([like_of(town, state) in rows for state in comes_of(rules, town, each, rows)])


def is_like(rules, town, thing):
    """Whether it is a state that is its own like; of anything as thing."""
    return is_state(rules, town, thing) and like_of(town, thing) == thing
