"""Books, rows of deeds and things of any kind for the tests; and an own count of deeds, written once more from the
document's words, to hold the program against."""

import itertools
import random
import re

from twainkeep.errors import Apart, Linked, NoPart, NoPlace, Twice

# Left: a in a link, b and e in another, c alone, d and g lacking. Right: p, then q and r, s alone, t lacking.
BOOK = (
    (("a", "One two.", (1,)), ("b", "Three, four", (2, 5)), ("c", "Five", (1, 12)), ("d", "", (3,)),
     ("e", "Six-seven 8", (4,)), ("g", "x", (8,))),
    (("p", "Eins zwei.", (1,)), ("q", "Drei", (2,)), ("r", "vier", (6,)), ("s", "a b", (0,)), ("t", "t", (2, 3))),
    ((("a",), ("p",), 1, ((), ())), (("b", "e"), ("q", "r"), 4, ((7,), (3, 9)))),
    ("c", "s"))

# Two that lack and two that are alone on a side, so that all can be joined; names not in the order of their places.
CROSSED = (
    (("z", "ab cd", (2,)), ("m", "ef", (1, 3)), ("y", "gh", (0,)), ("k", "ij kl", (5,))),
    (("n", "N n", (4,)), ("x", "X x", (2, 4)), ("l", "", (1,))),
    ((("m", "z"), ("l", "n"), 3, ((1,), ())),),
    ())


class Ledger:
    """Keeps, of each part, its side, text, moments and kin: None (lacking), "alone", or the number of a link."""

    def __init__(self, book):
        self.rows = [[part[0] for part in book[side]] for side in (0, 1)]
        self.texts = {part[0]: part[1] for part in book[0] + book[1]}
        self.moments = {part[0]: set(part[2]) for part in book[0] + book[1]}
        self.kin = {name: None for name in self.texts}
        self.kin.update((name, "alone") for name in book[3])
        self.told = {}
        self.lost = {}
        for number, link in enumerate(book[2]):
            self.kin.update((name, number) for name in link[0] + link[1])
            self.told[number] = link[2]
            self.lost[number] = [set(link[3][0]), set(link[3][1])]

    def side(self, name):
        return 0 if name in self.rows[0] else 1

    def linked(self, name):
        return self.kin[name] in self.told

    def of_link(self, number, side):
        return sorted(name for name in self.rows[side] if self.kin[name] == number)

    def all_of(self, name):
        if not self.linked(name):
            return [name]
        return sorted(each for each in self.kin if self.kin[each] == self.kin[name])

    def state(self, name):
        if not self.linked(name):
            return (self.kin[name] or "lacking",)
        number = self.kin[name]
        other = 1 - self.side(name)
        later = set(self.lost[number][other])
        for each in self.of_link(number, other):
            later |= self.moments[each]
        later = sorted(moment for moment in later if moment > self.told[number])
        return ("stale", later[0]) if later else ("step",)

    def book(self):
        sides = [tuple((name, self.texts[name], tuple(sorted(self.moments[name]))) for name in row)
                 for row in self.rows]
        links = [(tuple(self.of_link(number, 0)), tuple(self.of_link(number, 1)), self.told[number],
                  tuple(tuple(sorted(moments)) for moments in self.lost[number])) for number in self.told]
        alone = sorted(name for name in self.kin if self.kin[name] == "alone")
        return (sides[0], sides[1], tuple(sorted(links)), tuple(alone))

    def pair(self, deed):
        """What a link or step deed just done tells: the left texts, the right ones, its moment."""
        number = self.kin[deed[2][0] if deed[0] == "link" else deed[2]]
        texts = ["".join(self.texts[name] for name in row if self.kin[name] == number) for row in self.rows]
        return (texts[0], texts[1], deed[1])

    def refusal(self, deed):
        """The class with which the deed is refused, None where it can be done."""
        return getattr(self, "refuse_" + deed[0])(*deed[2:])

    def absent(self, *names):
        return any(name not in self.texts for name in names)

    def refuse_put(self, side, behind, name, text):
        if behind and self.absent(behind):
            return NoPart
        if behind and self.side(behind) != side:
            return NoPlace
        return None if self.absent(name) else Twice

    def refuse_take(self, name):
        return NoPart if self.absent(name) else None

    def refuse_part(self, name, at, more):
        if self.absent(name):
            return NoPart
        if not self.absent(more):
            return Twice
        return None if at in range(1, len(self.texts[name])) else NoPlace

    def refuse_join(self, name, other):
        if self.absent(name, other):
            return NoPart
        if name == other or self.side(name) != self.side(other):
            return NoPlace
        return None if self.kin[name] == self.kin[other] else Apart

    def refuse_move(self, name, behind):
        if self.absent(name) or behind and self.absent(behind):
            return NoPart
        if behind == name or behind and self.side(behind) != self.side(name):
            return NoPlace
        return None

    def refuse_change(self, name, text):
        return NoPart if self.absent(name) else None

    def refuse_word(self, name, k, word):
        if self.absent(name):
            return NoPart
        return None if k < len(re.findall("[A-Za-z0-9]+", self.texts[name])) else NoPlace

    def refuse_link(self, ones, others):
        if self.absent(*ones, *others):
            return NoPart
        if any(self.side(name) == 1 for name in ones) or any(self.side(name) == 0 for name in others):
            return NoPlace
        return Linked if any(self.kin[name] is not None for name in ones + others) else None

    def refuse_loose(self, name):
        if self.absent(name):
            return NoPart
        return None if self.linked(name) else Apart

    def refuse_step(self, name):
        return self.refuse_loose(name)

    def refuse_alone(self, name):
        if self.absent(name):
            return NoPart
        return None if self.kin[name] is None else Linked

    def refuse_lack(self, name):
        if self.absent(name):
            return NoPart
        return None if self.kin[name] == "alone" else Apart

    def touches(self, deed):
        """The set of things that a deed touches that can be done."""
        word, names = deed[0], [name for name in deed[2:] if isinstance(name, str)]
        if word == "put":
            return {("part", deed[4]), ("spot", deed[4]), ("spot", deed[3]) if deed[3] else ("head", deed[2])}
        if word == "move":
            return {("spot", names[0]), ("spot", names[1]) if names[1] else ("head", self.side(names[0]))}
        if word == "part":
            return {(kind, name) for kind in ("part", "spot") for name in names}
        if word == "join":
            return {("part", names[0]), ("part", names[1]), ("spot", names[1])}
        if word == "link":
            return {(kind, name) for kind in ("part", "spot") for name in deed[2] + deed[3]}
        if word in ("take", "step", "loose"):
            spots = {"take": names, "step": self.all_of(names[0]), "loose": []}[word]
            return {("part", name) for name in self.all_of(names[0])} | {("spot", name) for name in spots}
        return {("part", names[0])}

    def do(self, deed):
        getattr(self, "do_" + deed[0])(*deed[1:])

    def set_behind(self, row, behind, name):
        row.insert(row.index(behind) + 1 if behind else 0, name)

    def forget(self, name):
        self.rows[self.side(name)].remove(name)
        for kept in (self.texts, self.moments, self.kin):
            kept.pop(name)

    def do_put(self, t, side, behind, name, text):
        self.set_behind(self.rows[side], behind, name)
        self.texts[name], self.moments[name], self.kin[name] = text, {t}, None

    def do_take(self, t, name):
        side, number, linked = self.side(name), self.kin[name], self.linked(name)
        if linked and self.of_link(number, side) == [name]:
            self.do_loose(t, name)
        elif linked:
            self.lost[number][side].add(t)
        self.forget(name)

    def do_part(self, t, name, at, more):
        text = self.texts[name]
        self.set_behind(self.rows[self.side(name)], name, more)
        self.texts[name], self.texts[more] = text[:at], text[at:]
        self.moments[more] = set(self.moments[name])
        self.kin[more] = self.kin[name]

    def do_join(self, t, name, other):
        self.texts[name] += self.texts[other]
        self.moments[name] |= self.moments[other]
        self.forget(other)

    def do_move(self, t, name, behind):
        row = self.rows[self.side(name)]
        row.remove(name)
        self.set_behind(row, behind, name)

    def do_change(self, t, name, text):
        self.texts[name] = text
        self.moments[name].add(t)

    def do_word(self, t, name, k, word):
        found = list(re.finditer("[A-Za-z0-9]+", self.texts[name]))[k]
        self.do_change(t, name, self.texts[name][:found.start()] + word + self.texts[name][found.end():])

    def do_link(self, t, ones, others):
        number = max(self.told, default=-1) + 1
        for name in ones + others:
            self.kin[name] = number
        self.told[number], self.lost[number] = t, [set(), set()]

    def do_loose(self, t, name):
        number = self.kin[name]
        for each in self.all_of(name):
            self.kin[each] = None
        self.told.pop(number)
        self.lost.pop(number)

    def do_step(self, t, name):
        self.told[self.kin[name]], self.lost[self.kin[name]] = t, [set(), set()]

    def do_alone(self, t, name):
        self.kin[name] = "alone"

    def do_lack(self, t, name):
        self.kin[name] = None


def own_things(book, deeds):
    """The sets of things that deeds touch, done one behind the other."""
    ledger, things = Ledger(book), []
    for deed in deeds:
        things.append(ledger.touches(deed))
        ledger.do(deed)
    return things


def own_book(book, deeds):
    """The book behind deeds done one behind the other, None where one of them can't be done."""
    ledger = Ledger(book)
    for deed in deeds:
        if ledger.refusal(deed) is not None:
            return None
        ledger.do(deed)
    return ledger.book()


def own_hanging(things, k):
    """The places of those that hang on the k-th: all that some chain of meeting deeds leads to, each behind the
    one ahead of it in the chain."""
    found = {k}
    for turn in things:
        found |= {j for i in found for j in range(i + 1, len(things)) if things[i] & things[j]}
    return sorted(found)


def own_pairs(book, deeds):
    """A dict of what each link and step deed tells, by its place, done one behind the other."""
    ledger, told = Ledger(book), {}
    for place, deed in enumerate(deeds):
        ledger.do(deed)
        if deed[0] in ("link", "step"):
            told[place] = ledger.pair(deed)
    return told


def name_rows(names, most):
    """All rows of 1 to most of the names, in every order."""
    return [row for count in range(1, most + 1) for row in itertools.permutations(names, count)]


def every_deed(names, t, most=1):
    """All deeds of some texts and numbers over these names, whether they can be done or not."""
    pairs = list(itertools.product(names, names))
    found = [("put", t, side, behind, name, "new one") for side in (0, 1) for behind in [""] + names for name in names]
    found += [("part", t, name, at, more) for name, more in pairs for at in (0, 1, 2, 5, 400)]
    found += [("join", t, name, other) for name, other in pairs]
    found += [("move", t, name, behind) for name in names for behind in [""] + names]
    found += [("change", t, name, text) for name in names for text in ("", "other text")]
    found += [("word", t, name, k, "Neu5") for name in names for k in (0, 1, 2, 3, 10 ** 12)]
    found += [("link", t, ones, others) for ones in name_rows(names, most) for others in name_rows(names, most)
              if not set(ones) & set(others)]
    found += [(word, t, name) for word in ("take", "loose", "step", "alone", "lack") for name in names]
    return found


def drawn_deed(draw, ledger):
    """Some deed over the names there and some others, that may be refused."""
    names = sorted(ledger.texts)
    some = names + ["u", "v", "w"]
    t = draw.choice((draw.randrange(10), draw.randrange(30), draw.choice((0, 10 ** 12))))
    word = draw.choice(("put", "take", "part", "join", "join", "move", "change", "word", "link", "link", "loose",
                        "step", "alone", "lack"))
    name, other = draw.choice(some), draw.choice(some)
    text = draw.choice(("", "x", "yes no", "A b, c.\n"))
    if word == "put":
        return (word, t, draw.randrange(2), draw.choice(("", other)), draw.choice(("u", "v", "w", name)), text)
    if word == "part":
        return (word, t, name, draw.randrange(6), draw.choice(("u", "v", "w")))
    if word == "join":
        return (word, t, name, draw.choice(ledger.all_of(name) if name in ledger.kin else some + [other]))
    if word == "move":
        return (word, t, name, draw.choice(("", other)))
    if word == "change":
        return (word, t, name, text)
    if word == "word":
        return (word, t, name, draw.randrange(3), draw.choice(("new", "N1", "0" * 20)))
    if word == "link":
        free = [each for each in names if ledger.kin[each] is None] or names
        return (word, t, drawn_row(draw, free, ledger, 0), drawn_row(draw, free, ledger, 1))
    return (word, t, name)


def drawn_row(draw, free, ledger, side):
    own = [name for name in free if ledger.side(name) == side]
    return tuple(draw.sample(own, draw.randint(1, min(3, len(own))))) if own else ("uvw"[side],)


def drawn_deeds(seed, book, count):
    """A row of deeds that can be done in the book one behind the other, the same each time."""
    draw = random.Random(seed)
    ledger = Ledger(book)
    deeds = []
    while len(deeds) < count:
        deed = drawn_deed(draw, ledger)
        if ledger.refusal(deed) is None:
            ledger.do(deed)
            deeds.append(deed)
    return tuple(deeds)


class Strange:
    """Takes no part in any comparison, and has no length."""

    def __eq__(self, other):
        raise RuntimeError("not to be compared")

    __lt__ = __gt__ = __le__ = __ge__ = __ne__ = __eq__
    __hash__ = None


def strange_things():
    itself = []
    itself.append(itself)
    return (None, True, False, 0, 1, -1, 4, 1.5, float("nan"), 2j, "", "abcd", "a", b"abcd", (), [], {}, set(),
            [(), (), (), ()], {0: (), 1: (), 2: (), 3: ()}, {"a": 1}, {1, 2, 3, 4}, frozenset((1, 2, 3, 4)), range(4),
            iter(()), itself, object(), Strange(), Strange, tuple, sorted, ValueError("x"), ..., (None,) * 4,
            (1, 2, 3, 4), ("", "", "", ""), ("a", "b", "c", "d"), ((), (), (), None), ([], [], [], []))


def places_in(thing, path=()):
    """The paths to all that is within the tuples of a thing."""
    yield path
    if isinstance(thing, tuple):
        for k, each in enumerate(thing):
            yield from places_in(each, path + (k,))


def put_at(thing, path, other):
    if not path:
        return other
    return thing[:path[0]] + (put_at(thing[path[0]], path[1:], other),) + thing[path[0] + 1:]


def at(thing, path):
    for k in path:
        thing = thing[k]
    return thing
