"""Books: two rows of parts, the links between them, and the parts told to stand for nothing."""

from twainkeep.errors import NoPart
from twainkeep.kinds import is_moment, is_row_of, is_text, rises
from twainkeep.names import is_name

EMPTY = ((), (), (), ())


def are_moments(thing):
    # Whether it rises is asked last: things of unlike kinds Python can't order.
    return isinstance(thing, tuple) and all([is_moment(each) for each in thing]) and rises(thing)


def are_names(thing):
    return isinstance(thing, tuple) and all([is_name(each) for each in thing]) and rises(thing)


def is_part(thing):
    if not is_row_of(thing, 3):
        return False
    return is_name(thing[0]) and is_text(thing[1]) and are_moments(thing[2]) and len(thing[2]) > 0


def are_parts(thing):
    return isinstance(thing, tuple) and all([is_part(each) for each in thing])


def is_link(thing):
    if not is_row_of(thing, 4) or not are_names(thing[0]) or not are_names(thing[1]):
        return False
    if len(thing[0]) == 0 or len(thing[1]) == 0 or not is_moment(thing[2]):
        return False
    return is_row_of(thing[3], 2) and are_moments(thing[3][0]) and are_moments(thing[3][1])


def are_links(thing):
    return isinstance(thing, tuple) and all([is_link(each) for each in thing]) and rises(thing)


def linked_names(links, side):
    names = []
    for link in links:
        names.extend(link[side])
    return names


def names_of(book):
    return tuple([part[0] for part in book[0] + book[1]])


def are_unlike(names):
    return len(set(names)) == len(names)


def are_among(names, others):
    known = dict([(name, True) for name in others])
    return all([name in known for name in names])


def is_book(thing):
    if not is_row_of(thing, 4) or not are_parts(thing[0]) or not are_parts(thing[1]):
        return False
    if not are_links(thing[2]) or not are_names(thing[3]) or not are_unlike(names_of(thing)):
        return False
    for side in (0, 1):
        own = [part[0] for part in thing[side]]
        if not are_among(linked_names(thing[2], side), own):
            return False
    linked = linked_names(thing[2], 0) + linked_names(thing[2], 1)
    # So no name is in two links, and none is linked and alone.
    return are_unlike(linked + list(thing[3])) and are_among(thing[3], names_of(thing))


def part_of(book, name):
    for part in book[0] + book[1]:
        if part[0] == name:
            return part
    raise NoPart(f"there is no part {name}")


def has_part(book, name):
    return name in names_of(book)


def side_of(book, name):
    return 0 if part_of(book, name) in book[0] else 1


def text_of(book, name):
    return part_of(book, name)[1]


def moments_of(book, name):
    return part_of(book, name)[2]


def link_of(book, name):
    side = side_of(book, name)
    for link in book[2]:
        if name in link[side]:
            return link
    return None


def members(book, name):
    link = link_of(book, name)
    if link is None:
        return (name,)
    return tuple(sorted(link[0] + link[1]))


def is_lacking(book, name):
    return link_of(book, name) is None and name not in book[3]
