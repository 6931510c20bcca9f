"""Words and books: who is told as what."""

from hearsaybook.plain import is_between, is_count, is_tuple_of

ALIVE = 0
SUSPECT = 1
GONE = 2
LEFT = 3

FEWEST_HOUSES = 2
MOST_HOUSES = 8


def is_word(thing):
    """Whether it is a word (number, mark); of anything."""
    return is_tuple_of(thing, 2) and is_count(thing[0]) and is_between(thing[1], ALIVE, LEFT)


def newer(one, other):
    """Whether the first word is newer than the second."""
    return one > other


def is_book(thing):
    """Whether it is a book, a word for each house; of anything."""
    if not isinstance(thing, tuple):
        return False
    return FEWEST_HOUSES <= len(thing) <= MOST_HOUSES and all([is_word(word) for word in thing])


def merged(book, other):
    """The book of the newer words, place by place."""
    return tuple([max(pair) for pair in zip(book, other)])


def heard(book, notes):
    """The book when the word of each note (house, word) was taken in."""
    words = list(book)
    for house, word in notes:
        if newer(word, words[house]):
            words[house] = word
    return tuple(words)
