"""What is told of a state: who is up, and as what each is told at those that are."""

from hearsaybook.words import ALIVE, GONE, newer


def views(state):
    """For each house that is up (house, marks), the marks in its book."""
    return tuple([(at, marks_in(book)) for at, book in books_up(state)])


def books_up(state):
    """The pairs (house, book) of the houses that are up."""
    turn, houses = state
    return [(at, book) for at, (up, book, told, timers) in enumerate(houses) if up == 1]


def marks_in(book):
    """The marks in a book, in order."""
    return tuple([mark for number, mark in book])


def gone_wrongly(state):
    """Whether a house that is up is told gone or left at another one that is."""
    up = views(state)
    return any([marks[other] >= GONE for at, marks in up for other, seen in up if other != at])


def gone_everywhere(state, house):
    """Whether the house is told gone or left at all others that are up."""
    return all([marks[house] >= GONE for at, marks in views(state) if at != house])


def agrees(state):
    """Whether all that are up have one book, in which just these are told alive, all others gone or left."""
    books = books_up(state)
    up = [at for at, book in books]
    return all([book == books[0][1] and tells_just(book, up) for at, book in books])


def tells_just(book, up):
    """Whether the book tells these houses alive, all others gone or left."""
    return all([mark == ALIVE if at in up else mark >= GONE for at, mark in enumerate(marks_in(book))])


def elder_in(state, behind):
    """The least (house, of which house) at which a word gave way to an elder one, or None."""
    now = dict(books_up(behind))
    for at, book in books_up(state):
        if at in now:
            for about, word in enumerate(book):
                if newer(word, now[at][about]):
                    return (at, about)
    return None
