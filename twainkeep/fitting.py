"""Which lacking parts of both sides fit one another by the words known."""

from twainkeep.books import text_of
from twainkeep.states import lacking
from twainkeep.words import hits_of_places, places_known


def named_places(book, names, words, side):
    return [(name, places_known((text_of(book, name),), words, side)) for name in names]


def fits_of(book, words, least):
    names = lacking(book)
    left = named_places(book, names[0], words, 0)
    right = named_places(book, names[1], words, 1)
    pairs = []
    for one, places in left:
        for other, other_places in right:
            if hits_of_places(places, other_places) >= least:
                pairs.append((one, other))
    return tuple(sorted(pairs))
