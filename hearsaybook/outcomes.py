"""All that may come of states by one turn in which letters are lost and nothing else is done."""

from hearsaybook.askings import asked_in_order, asks_any, asks_now, judged, posted, ways


def outcomes(rules, town, spent, most):
    """Each state that comes of these by one turn, with the least number of letters lost by then, at most so many.

    spent is a dict: each state ahead of the turn, with how many letters were lost by then.
    """
    for a in range(len(town)):
        for place in range(len(town) - 1):
            spent = behind_asking(rules, town, spent, most, a, place)
    return {(turn + 1, houses): lost for (turn, houses), lost in spent.items()}


def behind_asking(rules, town, spent, most, a, place):
    """The same within a turn: when a has asked whom it asks in this place, if any."""
    found = {}
    for state, lost in spent.items():
        b = asked_in_place(rules, town, state, a, place)
        if b is None:
            keep_least(found, state, lost)
        else:
            for behind, more in asking(rules, town, state, a, b, most - lost).items():
                keep_least(found, behind, lost + more)
    return found


def asked_in_place(rules, town, state, a, place):
    """Whom a asks in this place of its order, or None."""
    if not asks_any(town, state, a):
        return None
    turn, houses = state
    b = asked_in_order(town, turn, a)[place]
    return b if asks_now(rules, town, state, a, b) else None


def keep_least(found, state, lost):
    """Keep the state with this number, unless it has one that is less."""
    if state not in found or lost < found[state]:
        found[state] = lost


def asking(rules, town, state, a, b, most):
    """Each state that comes of this one when a asks b, with the least number of letters lost, at most so many."""
    found = {}
    unanswered = {state: 0}
    for way in ways(rules, state, a, b):
        failed = {}
        for now, lost in unanswered.items():
            came, failures = tried(rules, town, now, way)
            if came is not None:
                keep_least(found, judged(rules, came, a, b, True), lost)
            for missed, more in failures:
                if lost + more <= most:
                    keep_least(failed, missed, lost + more)
        unanswered = failed
    for now, lost in unanswered.items():
        keep_least(found, judged(rules, now, a, b, False), lost)
    return found


def tried(rules, town, state, way):
    """The state when all letters of the way are taken in, or None; and (state, lost) for each that isn't taken in."""
    failures = []
    for x, y in way:
        missed, came = posted(rules, town, state, x, y)
        if came is None:
            # It needn't be lost.
            failures.append((missed, 0))
            return (None, failures)
        failures.append((missed, 1))
        state = came
    return (state, failures)
