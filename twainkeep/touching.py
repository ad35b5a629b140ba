"""What deeds touch, which of them meet, and the orders that keep the order of those that do."""

from twainkeep.books import members, side_of
from twainkeep.deeds import done


def parts_touched(book, deed):
    word = deed[0]
    if word == "move":
        return ()
    if word == "put":
        return (deed[4],)
    if word == "part":
        return (deed[2], deed[4])
    if word == "join":
        return (deed[2], deed[3])
    if word == "link":
        return deed[2] + deed[3]
    if word in ("take", "loose", "step"):
        return members(book, deed[2])
    return (deed[2],)


def spots_touched(book, deed):
    word = deed[0]
    if word == "put":
        return (deed[4], deed[3])
    if word == "take":
        return (deed[2],)
    if word == "part":
        return (deed[2], deed[4])
    if word == "join":
        return (deed[3],)
    if word == "move":
        return (deed[2], deed[3])
    if word == "link":
        return deed[2] + deed[3]
    if word == "step":
        return members(book, deed[2])
    return ()


def side_touched(book, deed):
    return deed[2] if deed[0] == "put" else side_of(book, deed[2])


def spot_thing(book, deed, name):
    # The spot behind "" is that ahead of all.
    if name == "":
        return ("head", side_touched(book, deed))
    return ("spot", name)


def things_of(book, deed):
    parts = [("part", name) for name in parts_touched(book, deed)]
    spots = [spot_thing(book, deed, name) for name in spots_touched(book, deed)]
    return tuple(sorted(parts + spots))


def touched(book, deed):
    # Done for its refusals alone: only a deed that can be done touches anything.
    done(book, deed)
    return things_of(book, deed)


def touched_by_each(book, deeds):
    rows = []
    ahead = book
    for deed in deeds:
        behind = done(ahead, deed)
        rows.append(things_of(ahead, deed))
        ahead = behind
    return rows


def share(ones, others):
    return len(set(ones) & set(others)) > 0


def meeting(book, deeds):
    rows = touched_by_each(book, deeds)
    pairs = []
    for i in range(len(rows)):
        for j in range(i + 1, len(rows)):
            if share(rows[i], rows[j]):
                pairs.append((i, j))
    return tuple(pairs)


def keeps(book, deeds, places):
    # The pairs come first, as what can't be done is refused whatever the places are.
    pairs = meeting(book, deeds)
    if sorted(places) != list(range(len(deeds))):
        return False
    ranks = dict([(place, rank) for rank, place in enumerate(places)])
    return all([ranks[i] < ranks[j] for i, j in pairs])
