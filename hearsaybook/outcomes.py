"""All that may come of states by one turn in which letters are lost and nothing else is done."""

from hearsaybook.askings import asked_in_order, asks_any, asks_now, judged, posted, ways


def outcomes(rules, town, spent, most):
    """Each state that comes of these by one turn, with (lost, row), at most so many lost.

    lost is the least number of letters lost by then, row the doings by which it comes so. spent is a dict: each state
    ahead of the turn, with the same.
    """
    traces = {state: (lost, row, (), 0) for state, (lost, row) in spent.items()}
    for a in range(len(town)):
        for place in range(len(town) - 1):
            traces = behind_asking(rules, town, traces, most, a, place)
    return {(turn + 1, houses): (lost, row + ((numbers, (), (), ()),))
            for (turn, houses), (lost, row, numbers, sent) in traces.items()}


# Within a turn each state has its trace (lost, row, numbers, sent): how many letters were lost by then, the doings of
# the turns ahead, the numbers of the letters lost in this turn, and how many were sent in it.


def behind_asking(rules, town, traces, most, a, place):
    """Each state, with its trace, when a has asked whom it asks in this place, if any."""
    found = {}
    for state, trace in traces.items():
        b = asked_in_place(rules, town, state, a, place)
        if b is None:
            keep_least(found, state, trace)
        else:
            for behind, longer in asking(rules, town, state, trace, a, b, most).items():
                keep_least(found, behind, longer)
    return found


def asked_in_place(rules, town, state, a, place):
    """Whom a asks in this place of its order, or None."""
    if not asks_any(town, state, a):
        return None
    turn, houses = state
    b = asked_in_order(town, turn, a)[place]
    return b if asks_now(rules, town, state, a, b) else None


def keep_least(found, state, trace):
    """Keep the state with this trace, or this (lost, row), unless it has one with as few lost."""
    if state not in found or trace[0] < found[state][0]:
        found[state] = trace


def asking(rules, town, state, trace, a, b, most):
    """Each state that comes of this one when a asks b, with its trace, at most so many lost."""
    found = {}
    unanswered = {state: trace}
    for way in ways(rules, state, a, b):
        failed = {}
        for now, ahead in unanswered.items():
            came, failures = tried(rules, town, now, way)
            if came is not None:
                keep_least(found, judged(rules, came, a, b, True), with_letters(ahead, len(way), 0))
            for at, (missed, more) in enumerate(failures):
                if ahead[0] + more <= most:
                    keep_least(failed, missed, with_letters(ahead, at + 1, more))
        unanswered = failed
    for now, ahead in unanswered.items():
        keep_least(found, judged(rules, now, a, b, False), ahead)
    return found


def tried(rules, town, state, way):
    """The state when all letters of the way are taken in, or None; and (state, lost) for each that isn't taken in."""
    failures = []
    for x, y in way:
        missed, came = posted(rules, town, state, x, y)
        if came is None:
            # It needn't be lost.
            failures.append((missed, 0))
            return (None, failures)
        failures.append((missed, 1))
        state = came
    return (state, failures)


def with_letters(trace, many, more):
    """The trace when so many more letters were sent, of which none was lost, or (more is 1) the last one."""
    lost, row, numbers, sent = trace
    if more == 0:
        return (lost, row, numbers, sent + many)
    return (lost + 1, row, numbers + (sent + many - 1,), sent + many)
