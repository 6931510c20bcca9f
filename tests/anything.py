"""Things of all kinds to hand in where the document says "of anything"."""


class Thing:
    """An object that says nothing of itself."""


class Agreeing:
    """An object that is equal to all, and lies on either side of all."""

    def __eq__(self, other):
        return True

    __lt__ = __le__ = __gt__ = __ge__ = __eq__

    def __hash__(self):
        return 0


class Stubborn:
    """An object that raises whatever it is asked."""

    def refuse(self, *things):
        raise RuntimeError("asked")

    __eq__ = __ne__ = __lt__ = __le__ = __gt__ = __ge__ = refuse
    __hash__ = __len__ = __iter__ = __bool__ = __getitem__ = __contains__ = refuse
    __int__ = __index__ = __add__ = __sub__ = __mod__ = refuse


def nested(kind, inmost=0, deep=30):
    """A thing within a tuple or a list, and so on, so deep."""
    thing = inmost
    for _ in range(deep):
        thing = kind([thing])
    return thing


def anything():
    """Things that are no word, book, rules, town, state or doings."""
    return [
        None, True, False, 0, 1, -1, 2, 10 ** 30, 0.0, 1.5, float("nan"), 1j,
        "", "a", "about", "(0, 0)", "ab", "\n", b"", b"ab", bytearray(b"ab"),
        [], [0, 0], [(0, 0), (0, 0)], {}, {0: 0, 1: 0}, set(), {0, 1}, frozenset([0, 1]),
        range(2), zip(), iter([]), len, int, tuple, Thing, Thing(), Agreeing(), Stubborn(), ..., NotImplemented,
        (), (None,), (True,), (0,), (None, None), (True, True), (Thing(), Thing()), (Agreeing(), Agreeing()),
        (Stubborn(), Stubborn()), (Agreeing(),) * 4, (Stubborn(),) * 4, (Agreeing(),) * 5, (Stubborn(),) * 5,
        ("", ""), ([], []), ({}, {}), ((), ()), ("a", "b", "c", "d", "e"), (0, ()), ((), 0), (0, ((),)),
        nested(tuple), nested(list), nested(tuple, ()), nested(tuple, (0, 0)), nested(list, [0, 0]),
        nested(tuple, None), nested(tuple, Stubborn()), nested(lambda things: (things[0], things[0]), 0, 12),
        nested(lambda things: {"a": things[0]}),
    ]


def instead_of(thing):
    """Things of another kind than this one, to stand in its place."""
    others = [None, 0.5, 1j, b"", b"a", [], {}, set(), {0}, Thing(), Agreeing(), Stubborn(), nested(list)]
    if isinstance(thing, int):
        others += [True, False, float(thing), str(thing), (), (thing,), [thing], nested(tuple)]
    elif isinstance(thing, str):
        others += [True, False, 0, 1, thing.encode(), (), (thing,), [thing], nested(tuple)]
    else:
        others += [True, False, 0, 1, "", "a", list(thing), {each: True for each in thing}, iter(thing)]
    return others


def misplaced(thing):
    """The thing, with one thing of another kind in it somewhere, for each place and each such kind."""
    found = instead_of(thing)
    if isinstance(thing, tuple):
        for at, each in enumerate(thing):
            for other in misplaced(each):
                found.append(thing[:at] + (other,) + thing[at + 1:])
    return found


def resized(thing):
    """The tuple with one thing less, and with one more, at either end; and with all twice."""
    return [thing[1:], thing[:-1], thing + thing[-1:], thing[:1] + thing, thing + (0,), thing + (None,), thing + thing]


def is_told(thing):
    """Whether it is what may be told: tuples, whole numbers, texts, truths and None, these very kinds."""
    if type(thing) is tuple:
        return all(is_told(each) for each in thing)
    return type(thing) in (int, str, bool, type(None))
