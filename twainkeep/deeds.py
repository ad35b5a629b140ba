"""Deeds: which things are deeds, and the book behind them."""

from twainkeep.books import are_unlike, has_part, is_lacking, link_of, moments_of, part_of, side_of, text_of
from twainkeep.cutting import cut_up, leaves
from twainkeep.errors import Apart, Linked, NoPlace, Twice
from twainkeep.kinds import is_moment, is_side, is_text
from twainkeep.names import is_name, name_at
from twainkeep.words import is_word_sign, words_of

MOST_LINKED = 8
MOST_WORD_SIGNS = 20

# What stands in each deed behind its word and its moment.
FORMS = {
    "put": ("side", "behind", "name", "text"),
    "take": ("name",),
    "part": ("name", "number", "name"),
    "join": ("name", "name"),
    "move": ("name", "behind"),
    "change": ("name", "text"),
    "word": ("name", "number", "word"),
    "link": ("names", "names"),
    "loose": ("name",),
    "step": ("name",),
    "alone": ("name",),
    "lack": ("name",),
}


def is_word(thing):
    if not isinstance(thing, str):
        return False
    return 1 <= len(thing) <= MOST_WORD_SIGNS and all([is_word_sign(sign) for sign in thing])


def are_linkable(thing):
    if not isinstance(thing, tuple):
        return False
    return 1 <= len(thing) <= MOST_LINKED and all([is_name(each) for each in thing])


def is_of_kind(thing, kind):
    if kind == "side":
        return is_side(thing)
    if kind == "behind":
        return is_name(thing) or (isinstance(thing, str) and thing == "")
    if kind == "name":
        return is_name(thing)
    if kind == "names":
        return are_linkable(thing)
    if kind == "number":
        return is_moment(thing)
    if kind == "word":
        return is_word(thing)
    return is_text(thing)


def is_deed(thing):
    if not isinstance(thing, tuple) or len(thing) < 2:
        return False
    # Asked ahead of the look into FORMS, as a dict can't be asked of things like lists.
    if not isinstance(thing[0], str) or thing[0] not in FORMS or not is_moment(thing[1]):
        return False
    form = FORMS[thing[0]]
    if len(thing) != len(form) + 2:
        return False
    if not all([is_of_kind(each, kind) for each, kind in zip(thing[2:], form)]):
        return False
    return thing[0] != "link" or are_unlike(thing[2] + thing[3])


def replaced(row, place, thing):
    return row[:place] + (thing,) + row[place + 1:]


def without(row, thing):
    return tuple([each for each in row if each != thing])


def with_one(row, thing):
    # For the rows that rise: moments, names, links.
    return tuple(sorted(set(row + (thing,))))


def parts_without(parts, name):
    return tuple([part for part in parts if part[0] != name])


def parts_with(parts, behind, part):
    place = 0
    if behind != "":
        place = [each[0] for each in parts].index(behind) + 1
    return parts[:place] + (part,) + parts[place:]


def parts_changed(parts, part):
    return tuple([part if each[0] == part[0] else each for each in parts])


def relinked(book, old, new):
    links = without(book[2], old)
    if new is not None:
        links = with_one(links, new)
    return replaced(book, 2, links)


def check_behind(book, side, behind):
    if behind != "" and side_of(book, behind) != side:
        raise NoPlace(f"{behind} is of the other side")


def check_new(book, name):
    if has_part(book, name):
        raise Twice(f"there is a part {name}")


def needed_link(book, name):
    link = link_of(book, name)
    if link is None:
        raise Apart(f"{name} is in no link")
    return link


def put_done(book, deed):
    side = deed[2]
    behind = deed[3]
    name = deed[4]
    check_behind(book, side, behind)
    check_new(book, name)
    part = (name, deed[5], (deed[1],))
    return replaced(book, side, parts_with(book[side], behind, part))


def link_behind_loss(link, side, name, t):
    if link[side] == (name,):
        return None
    lost = replaced(link[3], side, with_one(link[3][side], t))
    return replaced(replaced(link, side, without(link[side], name)), 3, lost)


def take_done(book, deed):
    name = deed[2]
    side = side_of(book, name)
    link = link_of(book, name)
    left_over = replaced(book, side, parts_without(book[side], name))
    left_over = replaced(left_over, 3, without(book[3], name))
    if link is None:
        return left_over
    return relinked(left_over, link, link_behind_loss(link, side, name, deed[1]))


def with_kin(book, name, more):
    # The new part more stands as name does: in its link, alone, or lacking.
    side = side_of(book, name)
    link = link_of(book, name)
    if link is not None:
        return relinked(book, link, replaced(link, side, with_one(link[side], more)))
    if name in book[3]:
        return replaced(book, 3, with_one(book[3], more))
    return book


def part_done(book, deed):
    name = deed[2]
    at = deed[3]
    more = deed[4]
    text = text_of(book, name)
    check_new(book, more)
    if not 1 <= at < len(text):
        raise NoPlace(f"{name} can't be parted at {at}")
    side = side_of(book, name)
    moments = moments_of(book, name)
    parts = parts_changed(book[side], (name, text[:at], moments))
    parts = parts_with(parts, name, (more, text[at:], moments))
    return with_kin(replaced(book, side, parts), name, more)


def check_joined(book, name, other):
    # Both are asked for their side ahead of all else, as both must be there.
    sides = (side_of(book, name), side_of(book, other))
    if sides[0] != sides[1] or name == other:
        raise NoPlace(f"{name} and {other} can't be joined")
    if link_of(book, name) != link_of(book, other) or (name in book[3]) != (other in book[3]):
        raise Apart(f"{name} and {other} don't stand alike")


def join_done(book, deed):
    name = deed[2]
    other = deed[3]
    check_joined(book, name, other)
    side = side_of(book, name)
    text = text_of(book, name) + text_of(book, other)
    moments = tuple(sorted(set(moments_of(book, name) + moments_of(book, other))))
    parts = parts_changed(parts_without(book[side], other), (name, text, moments))
    joined = replaced(replaced(book, side, parts), 3, without(book[3], other))
    link = link_of(book, name)
    if link is None:
        return joined
    return relinked(joined, link, replaced(link, side, without(link[side], other)))


def move_done(book, deed):
    name = deed[2]
    behind = deed[3]
    side = side_of(book, name)
    check_behind(book, side, behind)
    if behind == name:
        raise NoPlace(f"{name} can't go behind itself")
    parts = parts_without(book[side], name)
    return replaced(book, side, parts_with(parts, behind, part_of(book, name)))


def changed(book, name, text, t):
    side = side_of(book, name)
    part = (name, text, with_one(moments_of(book, name), t))
    return replaced(book, side, parts_changed(book[side], part))


def change_done(book, deed):
    return changed(book, deed[2], deed[3], deed[1])


def with_word(text, k, word):
    begin = 0
    end = 0
    for each in words_of(text)[:k + 1]:
        # Between a word and the one behind it no letter or figure stands, so the first find is that one.
        begin = text.find(each, end)
        end = begin + len(each)
    return text[:begin] + word + text[end:]


def word_done(book, deed):
    name = deed[2]
    k = deed[3]
    text = text_of(book, name)
    if k >= len(words_of(text)):
        raise NoPlace(f"{name} has no word {k}")
    return changed(book, name, with_word(text, k, deed[4]), deed[1])


def check_linkable(book, ones, others):
    sides = [(side_of(book, name), 0) for name in ones] + [(side_of(book, name), 1) for name in others]
    if any([side != due for side, due in sides]):
        raise NoPlace("a part is of the wrong side")
    if not all([is_lacking(book, name) for name in ones + others]):
        raise Linked("a part isn't lacking")


def link_done(book, deed):
    ones = deed[2]
    others = deed[3]
    check_linkable(book, ones, others)
    link = (tuple(sorted(ones)), tuple(sorted(others)), deed[1], ((), ()))
    return relinked(book, None, link)


def loose_done(book, deed):
    return relinked(book, needed_link(book, deed[2]), None)


def step_done(book, deed):
    link = needed_link(book, deed[2])
    return relinked(book, link, (link[0], link[1], deed[1], ((), ())))


def alone_done(book, deed):
    name = deed[2]
    if not is_lacking(book, name):
        raise Linked(f"{name} isn't lacking")
    return replaced(book, 3, with_one(book[3], name))


def lack_done(book, deed):
    name = deed[2]
    part_of(book, name)
    if name not in book[3]:
        raise Apart(f"{name} isn't alone")
    return replaced(book, 3, without(book[3], name))


DOERS = {
    "put": put_done,
    "take": take_done,
    "part": part_done,
    "join": join_done,
    "move": move_done,
    "change": change_done,
    "word": word_done,
    "link": link_done,
    "loose": loose_done,
    "step": step_done,
    "alone": alone_done,
    "lack": lack_done,
}


def done(book, deed):
    doer = DOERS[deed[0]]
    return doer(book, deed)


def all_done(book, deeds):
    behind = book
    for deed in deeds:
        behind = done(behind, deed)
    return behind


def begun(one, other, rules, t):
    left = leaves(cut_up(one, rules))
    right = leaves(cut_up(other, rules))
    return (new_parts(left, 0, t), new_parts(right, len(left), t), (), ())


def new_parts(found, first, t):
    return tuple([(name_at(first + k), leaf[1], (t,)) for k, leaf in enumerate(found)])
