"""What hangs on a deed: the deeds that go with it when it is done last or taken out."""

from twainkeep.errors import NoDeed
from twainkeep.touching import share, touched_by_each


def caught(rows, places):
    # Of rows of things: those at the places, and each that shares a thing with one caught ahead of it.
    found = []
    things = []
    for place, row in enumerate(rows):
        if place in places or share(things, row):
            found.append(place)
            things.extend(row)
    return tuple(found)


def deeds_besides(deeds, places):
    # By their places, as the same deed may stand in a row twice.
    return tuple([deed for place, deed in enumerate(deeds) if place not in places])


def hanging(book, deeds, k):
    # Asked first, as this is refused ahead of a deed that can't be done.
    if not 0 <= k < len(deeds):
        raise NoDeed("there is no such deed")
    return caught(touched_by_each(book, deeds), (k,))


def put_last(book, deeds, k):
    places = hanging(book, deeds, k)
    last = tuple([deeds[place] for place in places])
    return deeds_besides(deeds, places) + last
