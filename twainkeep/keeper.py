"""A Keeper: a book with the deeds done on it, each of which can be undone."""

from twainkeep.books import link_of
from twainkeep.deeds import done
from twainkeep.errors import NoDeed
from twainkeep.hanging import deeds_besides, hanging


def tells_pair(deed):
    return deed[0] in ("link", "step")


def text_of_side(book, link, side):
    # As the side has them: the names in a link rise, whatever the order of their parts.
    return "".join([part[1] for part in book[side] if part[0] in link[side]])


def pair_told(book, deed):
    name = deed[2][0] if deed[0] == "link" else deed[2]
    link = link_of(book, name)
    return (text_of_side(book, link, 0), text_of_side(book, link, 1), deed[1])


def books_along(book, deeds):
    books = [book]
    for deed in deeds:
        books.append(done(books[-1], deed))
    return books


class Keeper:
    def __init__(self, book):
        self.standing = ()
        # The book ahead of all deeds and those behind each, so that going back finds the very book that was.
        self.books = [book]

    def do(self, deed):
        # Refused here or not at all, so that a refused deed leaves all as it was.
        self.books.append(done(self.books[-1], deed))
        self.standing = self.standing + (deed,)

    def back(self):
        if len(self.standing) == 0:
            raise NoDeed("there is no deed to undo")
        self.books.pop()
        self.standing = self.standing[:-1]

    def out(self, k):
        first = self.books[0]
        kept = deeds_besides(self.standing, hanging(first, self.standing, k))
        self.books = books_along(first, kept)
        self.standing = kept

    def book(self):
        return self.books[-1]

    def deeds(self):
        return self.standing

    def pairs(self):
        behind = self.books[1:]
        return tuple([pair_told(book, deed) for deed, book in zip(self.standing, behind) if tells_pair(deed)])
