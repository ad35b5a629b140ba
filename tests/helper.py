"""Books, rows of deeds, texts and things of any kind for the tests; and an own count of deeds, and of ways and what
they cost, written once more from the document's words, to hold the program against."""

import functools
import itertools
import random
import re

from twainkeep.errors import Apart, Linked, NoPart, NoPlace, Twice

# Left: a in a link, b and e in another, c alone, d and g lacking. Right: p, then q and r, s alone, t lacking.
BOOK = (
    (("a", "One two.", (1,)), ("b", "Three, four", (2, 5)), ("c", "Five", (1, 12)), ("d", "", (3,)),
     ("e", "Six-seven 8", (4,)), ("g", "x", (8,))),
    (("p", "Eins zwei.", (1,)), ("q", "Drei", (2,)), ("r", "vier", (6,)), ("s", "a b", (0,)), ("t", "t", (2, 3))),
    ((("a",), ("p",), 1, ((), ())), (("b", "e"), ("q", "r"), 4, ((7,), (3, 9)))),
    ("c", "s"))

# Two that lack and two that are alone on a side, so that all can be joined; names not in the order of their places.
CROSSED = (
    (("z", "ab cd", (2,)), ("m", "ef", (1, 3)), ("y", "gh", (0,)), ("k", "ij kl", (5,))),
    (("n", "N n", (4,)), ("x", "X x", (2, 4)), ("l", "", (1,))),
    ((("m", "z"), ("l", "n"), 3, ((1,), ())),),
    ())


class Ledger:
    """Keeps, of each part, its side, text, moments and kin: None (lacking), "alone", or the number of a link."""

    def __init__(self, book):
        self.rows = [[part[0] for part in book[side]] for side in (0, 1)]
        self.texts = {part[0]: part[1] for part in book[0] + book[1]}
        self.moments = {part[0]: set(part[2]) for part in book[0] + book[1]}
        self.kin = {name: None for name in self.texts}
        self.kin.update((name, "alone") for name in book[3])
        self.told = {}
        self.lost = {}
        for number, link in enumerate(book[2]):
            self.kin.update((name, number) for name in link[0] + link[1])
            self.told[number] = link[2]
            self.lost[number] = [set(link[3][0]), set(link[3][1])]

    def side(self, name):
        return 0 if name in self.rows[0] else 1

    def linked(self, name):
        return self.kin[name] in self.told

    def of_link(self, number, side):
        return sorted(name for name in self.rows[side] if self.kin[name] == number)

    def all_of(self, name):
        if not self.linked(name):
            return [name]
        return sorted(each for each in self.kin if self.kin[each] == self.kin[name])

    def state(self, name):
        if not self.linked(name):
            return (self.kin[name] or "lacking",)
        number = self.kin[name]
        other = 1 - self.side(name)
        later = set(self.lost[number][other])
        for each in self.of_link(number, other):
            later |= self.moments[each]
        later = sorted(moment for moment in later if moment > self.told[number])
        return ("stale", later[0]) if later else ("step",)

    def book(self):
        sides = [tuple((name, self.texts[name], tuple(sorted(self.moments[name]))) for name in row)
                 for row in self.rows]
        links = [(tuple(self.of_link(number, 0)), tuple(self.of_link(number, 1)), self.told[number],
                  tuple(tuple(sorted(moments)) for moments in self.lost[number])) for number in self.told]
        alone = sorted(name for name in self.kin if self.kin[name] == "alone")
        return (sides[0], sides[1], tuple(sorted(links)), tuple(alone))

    def pair(self, deed):
        """What a link or step deed just done tells: the left texts, the right ones, its moment."""
        number = self.kin[deed[2][0] if deed[0] == "link" else deed[2]]
        texts = ["".join(self.texts[name] for name in row if self.kin[name] == number) for row in self.rows]
        return (texts[0], texts[1], deed[1])

    def refusal(self, deed):
        """The class with which the deed is refused, None where it can be done."""
        return getattr(self, "refuse_" + deed[0])(*deed[2:])

    def absent(self, *names):
        return any(name not in self.texts for name in names)

    def refuse_put(self, side, behind, name, text):
        if behind and self.absent(behind):
            return NoPart
        if behind and self.side(behind) != side:
            return NoPlace
        return None if self.absent(name) else Twice

    def refuse_take(self, name):
        return NoPart if self.absent(name) else None

    def refuse_part(self, name, at, more):
        if self.absent(name):
            return NoPart
        if not self.absent(more):
            return Twice
        return None if at in range(1, len(self.texts[name])) else NoPlace

    def refuse_join(self, name, other):
        if self.absent(name, other):
            return NoPart
        if name == other or self.side(name) != self.side(other):
            return NoPlace
        return None if self.kin[name] == self.kin[other] else Apart

    def refuse_move(self, name, behind):
        if self.absent(name) or behind and self.absent(behind):
            return NoPart
        if behind == name or behind and self.side(behind) != self.side(name):
            return NoPlace
        return None

    def refuse_change(self, name, text):
        return NoPart if self.absent(name) else None

    def refuse_word(self, name, k, word):
        if self.absent(name):
            return NoPart
        return None if k < len(re.findall("[A-Za-z0-9]+", self.texts[name])) else NoPlace

    def refuse_link(self, ones, others):
        if self.absent(*ones, *others):
            return NoPart
        if any(self.side(name) == 1 for name in ones) or any(self.side(name) == 0 for name in others):
            return NoPlace
        return Linked if any(self.kin[name] is not None for name in ones + others) else None

    def refuse_loose(self, name):
        if self.absent(name):
            return NoPart
        return None if self.linked(name) else Apart

    def refuse_step(self, name):
        return self.refuse_loose(name)

    def refuse_alone(self, name):
        if self.absent(name):
            return NoPart
        return None if self.kin[name] is None else Linked

    def refuse_lack(self, name):
        if self.absent(name):
            return NoPart
        return None if self.kin[name] == "alone" else Apart

    def touches(self, deed):
        """The set of things that a deed touches that can be done."""
        word, names = deed[0], [name for name in deed[2:] if isinstance(name, str)]
        if word == "put":
            return {("part", deed[4]), ("spot", deed[4]), ("spot", deed[3]) if deed[3] else ("head", deed[2])}
        if word == "move":
            return {("spot", names[0]), ("spot", names[1]) if names[1] else ("head", self.side(names[0]))}
        if word == "part":
            return {(kind, name) for kind in ("part", "spot") for name in names}
        if word == "join":
            return {("part", names[0]), ("part", names[1]), ("spot", names[1])}
        if word == "link":
            return {(kind, name) for kind in ("part", "spot") for name in deed[2] + deed[3]}
        if word in ("take", "step", "loose"):
            spots = {"take": names, "step": self.all_of(names[0]), "loose": []}[word]
            return {("part", name) for name in self.all_of(names[0])} | {("spot", name) for name in spots}
        return {("part", names[0])}

    def do(self, deed):
        getattr(self, "do_" + deed[0])(*deed[1:])

    def set_behind(self, row, behind, name):
        row.insert(row.index(behind) + 1 if behind else 0, name)

    def forget(self, name):
        self.rows[self.side(name)].remove(name)
        for kept in (self.texts, self.moments, self.kin):
            kept.pop(name)

    def do_put(self, t, side, behind, name, text):
        self.set_behind(self.rows[side], behind, name)
        self.texts[name], self.moments[name], self.kin[name] = text, {t}, None

    def do_take(self, t, name):
        side, number, linked = self.side(name), self.kin[name], self.linked(name)
        if linked and self.of_link(number, side) == [name]:
            self.do_loose(t, name)
        elif linked:
            self.lost[number][side].add(t)
        self.forget(name)

    def do_part(self, t, name, at, more):
        text = self.texts[name]
        self.set_behind(self.rows[self.side(name)], name, more)
        self.texts[name], self.texts[more] = text[:at], text[at:]
        self.moments[more] = set(self.moments[name])
        self.kin[more] = self.kin[name]

    def do_join(self, t, name, other):
        self.texts[name] += self.texts[other]
        self.moments[name] |= self.moments[other]
        self.forget(other)

    def do_move(self, t, name, behind):
        row = self.rows[self.side(name)]
        row.remove(name)
        self.set_behind(row, behind, name)

    def do_change(self, t, name, text):
        self.texts[name] = text
        self.moments[name].add(t)

    def do_word(self, t, name, k, word):
        found = list(re.finditer("[A-Za-z0-9]+", self.texts[name]))[k]
        self.do_change(t, name, self.texts[name][:found.start()] + word + self.texts[name][found.end():])

    def do_link(self, t, ones, others):
        number = max(self.told, default=-1) + 1
        for name in ones + others:
            self.kin[name] = number
        self.told[number], self.lost[number] = t, [set(), set()]

    def do_loose(self, t, name):
        number = self.kin[name]
        for each in self.all_of(name):
            self.kin[each] = None
        self.told.pop(number)
        self.lost.pop(number)

    def do_step(self, t, name):
        self.told[self.kin[name]], self.lost[self.kin[name]] = t, [set(), set()]

    def do_alone(self, t, name):
        self.kin[name] = "alone"

    def do_lack(self, t, name):
        self.kin[name] = None


def own_things(book, deeds):
    """The sets of things that deeds touch, done one behind the other."""
    ledger, things = Ledger(book), []
    for deed in deeds:
        things.append(ledger.touches(deed))
        ledger.do(deed)
    return things


def own_book(book, deeds):
    """The book behind deeds done one behind the other, None where one of them can't be done."""
    ledger = Ledger(book)
    for deed in deeds:
        if ledger.refusal(deed) is not None:
            return None
        ledger.do(deed)
    return ledger.book()


def own_hanging(things, k):
    """The places of those that hang on the k-th: all that some chain of meeting deeds leads to, each behind the
    one ahead of it in the chain."""
    found = {k}
    for turn in things:
        found |= {j for i in found for j in range(i + 1, len(things)) if things[i] & things[j]}
    return sorted(found)


def own_pairs(book, deeds):
    """A dict of what each link and step deed tells, by its place, done one behind the other."""
    ledger, told = Ledger(book), {}
    for place, deed in enumerate(deeds):
        ledger.do(deed)
        if deed[0] in ("link", "step"):
            told[place] = ledger.pair(deed)
    return told


def name_rows(names, most):
    """All rows of 1 to most of the names, in every order."""
    return [row for count in range(1, most + 1) for row in itertools.permutations(names, count)]


def every_deed(names, t, most=1):
    """All deeds of some texts and numbers over these names, whether they can be done or not."""
    pairs = list(itertools.product(names, names))
    found = [("put", t, side, behind, name, "new one") for side in (0, 1) for behind in [""] + names for name in names]
    found += [("part", t, name, at, more) for name, more in pairs for at in (0, 1, 2, 5, 400)]
    found += [("join", t, name, other) for name, other in pairs]
    found += [("move", t, name, behind) for name in names for behind in [""] + names]
    found += [("change", t, name, text) for name in names for text in ("", "other text")]
    found += [("word", t, name, k, "Neu5") for name in names for k in (0, 1, 2, 3, 10 ** 12)]
    found += [("link", t, ones, others) for ones in name_rows(names, most) for others in name_rows(names, most)
              if not set(ones) & set(others)]
    found += [(word, t, name) for word in ("take", "loose", "step", "alone", "lack") for name in names]
    return found


def drawn_deed(draw, ledger):
    """Some deed over the names there and some others, that may be refused."""
    names = sorted(ledger.texts)
    some = names + ["u", "v", "w"]
    t = draw.choice((draw.randrange(10), draw.randrange(30), draw.choice((0, 10 ** 12))))
    word = draw.choice(("put", "take", "part", "join", "join", "move", "change", "word", "link", "link", "loose",
                        "step", "alone", "lack"))
    name, other = draw.choice(some), draw.choice(some)
    text = draw.choice(("", "x", "yes no", "A b, c.\n"))
    if word == "put":
        return (word, t, draw.randrange(2), draw.choice(("", other)), draw.choice(("u", "v", "w", name)), text)
    if word == "part":
        return (word, t, name, draw.randrange(6), draw.choice(("u", "v", "w")))
    if word == "join":
        return (word, t, name, draw.choice(ledger.all_of(name) if name in ledger.kin else some + [other]))
    if word == "move":
        return (word, t, name, draw.choice(("", other)))
    if word == "change":
        return (word, t, name, text)
    if word == "word":
        return (word, t, name, draw.randrange(3), draw.choice(("new", "N1", "0" * 20)))
    if word == "link":
        free = [each for each in names if ledger.kin[each] is None] or names
        return (word, t, drawn_row(draw, free, ledger, 0), drawn_row(draw, free, ledger, 1))
    return (word, t, name)


def drawn_row(draw, free, ledger, side):
    own = [name for name in free if ledger.side(name) == side]
    return tuple(draw.sample(own, draw.randint(1, min(3, len(own))))) if own else ("uvw"[side],)


def drawn_deeds(seed, book, count):
    """A row of deeds that can be done in the book one behind the other, the same each time."""
    draw = random.Random(seed)
    ledger = Ledger(book)
    deeds = []
    while len(deeds) < count:
        deed = drawn_deed(draw, ledger)
        if ledger.refusal(deed) is None:
            ledger.do(deed)
            deeds.append(deed)
    return tuple(deeds)


def runs(count):
    """The rows of neighbours among so many places, the empty one with them."""
    return [()] + [tuple(range(first, last)) for first in range(count) for last in range(first + 1, count + 1)]


@functools.lru_cache(maxsize=None)
def own_steps(m, n):
    """All steps that may stand in a way through m left texts and n right ones, wherever."""
    counts = {(0, 1), (1, 0), (1, 1), (1, 2), (1, 3), (2, 1), (3, 1)}
    found = [((ones, others),) for ones in runs(m) for others in runs(n) if (len(ones), len(others)) in counts]
    for i in range(m - 1):
        for j in range(n - 1):
            found.append((((i,), (j + 1,)), ((i + 1,), (j,))))
    return tuple(found)


def places_of(step, side):
    return sorted(place for link in step for place in link[side])


@functools.lru_cache(maxsize=None)
def own_ways(m, n):
    """All rows of steps whose places, side by side, are those of all texts, each once, in order."""
    steps = own_steps(m, n)

    def longer(way, sides):
        if sides == (list(range(m)), list(range(n))):
            yield way
        for step in steps:
            more = (sides[0] + places_of(step, 0), sides[1] + places_of(step, 1))
            if all(side == list(range(len(side))) for side in more):
                yield from longer(way + (step,), more)
    return tuple(longer((), ([], [])))


@functools.lru_cache(maxsize=None)
def own_cores(text):
    return {word.lower() for word in re.findall("[A-Za-z0-9]+", text)}


def own_hits(ones, others, words):
    left, right = [set().union(*map(own_cores, texts)) for texts in (ones, others)]
    return sum(one in left and other in right for one, other in words)


def own_size(texts):
    return len("".join(texts).replace(" ", "").replace("\n", ""))


def own_step_cost(ones, others, words, prices, step):
    """What a step costs, by the document's words."""
    out, more, cross, stretch, anchor = prices
    cost = cross if len(step) == 2 else 0
    for left, right in step:
        if not left or not right:
            cost += out
            continue
        left, right = [ones[i] for i in left], [others[j] for j in right]
        cost += more * (max(len(left), len(right)) - 1) + stretch * abs(own_size(left) - own_size(right))
        cost -= anchor * own_hits(left, right, words)
    return cost


def own_way_cost(ones, others, words, prices, way):
    return sum(own_step_cost(ones, others, words, prices, step) for step in way)


def own_priced(ones, others, words, prices):
    """All steps there are, wherever: each with where it begins, where it ends, and its cost."""
    found = []
    for step in own_steps(len(ones), len(others)):
        counts = (len(places_of(step, 0)), len(places_of(step, 1)))
        cost = own_step_cost(ones, others, words, prices, step)
        for i in places_of(step, 0)[:1] or range(len(ones) + 1):
            for j in places_of(step, 1)[:1] or range(len(others) + 1):
                found.append(((i, j), (i + counts[0], j + counts[1]), cost))
    return found


def own_grid(ones, others, words, prices):
    """The least cost to each place from the begin: the greatest numbers that a grid may have."""
    least = {(0, 0): 0}
    for begin, end, cost in sorted(own_priced(ones, others, words, prices)):
        least[end] = min(least.get(end, least[begin] + cost), least[begin] + cost)
    return tuple(tuple(least[i, j] for j in range(len(others) + 1)) for i in range(len(ones) + 1))


def own_rests(ones, others, words, prices):
    """A dict of the least cost from each place to the end."""
    least = {(len(ones), len(others)): 0}
    for begin, end, cost in sorted(own_priced(ones, others, words, prices), reverse=True):
        least[begin] = min(least.get(begin, least[end] + cost), least[end] + cost)
    return least


def own_is_paper(ones, others, words, prices, cost, grid):
    """Whether a grid of whole numbers, of the right size, is a paper of this cost."""
    held = all(grid[end[0]][end[1]] - grid[begin[0]][begin[1]] <= cost_of_step
               for begin, end, cost_of_step in own_priced(ones, others, words, prices))
    return held and grid[0][0] == 0 and grid[-1][-1] == cost


TONGUES = (("one", "two", "Three", "four5", "SIX", "7", "eight"),
           ("eins", "zwei", "Drei", "vier5", "SECHS", "7", "acht"))
WORDS = tuple((one.lower(), other.lower()) for one, other in zip(*TONGUES)) + (("one", "zwei"), ("none", "keins"))


def drawn_text(draw, side):
    return "".join(draw.choice(TONGUES[side]) + draw.choice((" ", ", ", ".\n")) for turn in range(draw.randrange(4)))


def drawn_row_of_texts(draw, side, count):
    return tuple(drawn_text(draw, side) for turn in range(count))


def told_over(draw, ones, count):
    """So many right texts that say what left ones say, some of these in one another's place."""
    places = list(range(max(len(ones), count)))
    for k in range(len(places) - 1):
        if draw.randrange(3) == 0:
            places[k:k + 2] = [places[k + 1], places[k]]
    texts = [ones[place] if place < len(ones) else "" for place in places[:count]]
    for one, other in zip(*TONGUES):
        texts = [text.replace(one, other) for text in texts]
    return tuple(texts)


def drawn_case(seed, m, n):
    """Two rows of texts with words known and prices, the same each time."""
    draw = random.Random(seed)
    words = tuple(draw.sample(WORDS, draw.randint(0, len(WORDS))))
    ones = drawn_row_of_texts(draw, 0, m)
    others = draw.choice((drawn_row_of_texts(draw, 1, n), told_over(draw, ones, n)))
    return ones, others, words, drawn_prices(draw)


def drawn_prices(draw):
    """Some of nought, now and then great ones; to leave out a text is often dear, so that the others count too."""
    most = draw.choice((1, 3, 12, 10 ** 6))
    out, more, cross, stretch, anchor = [draw.choice((0, 1, 1)) * draw.randint(0, most) for turn in range(5)]
    return (min(out * draw.choice((1, 5)), 10 ** 6), more, cross, stretch, anchor)


def is_plain(thing):
    """Whether a thing is tuples, texts, whole numbers and None through and through."""
    if isinstance(thing, tuple):
        return all(is_plain(each) for each in thing)
    return thing is None or isinstance(thing, (int, str)) and not isinstance(thing, bool)


class Strange:
    """Takes no part in any comparison, and has no length."""

    def __eq__(self, other):
        raise RuntimeError("not to be compared")

    __lt__ = __gt__ = __le__ = __ge__ = __ne__ = __eq__
    __hash__ = None


def strange_things():
    itself = []
    itself.append(itself)
    return (None, True, False, 0, 1, -1, 4, 1.5, float("nan"), 2j, "", "abcd", "a", b"abcd", (), [], {}, set(),
            [(), (), (), ()], {0: (), 1: (), 2: (), 3: ()}, {"a": 1}, {1, 2, 3, 4}, frozenset((1, 2, 3, 4)), range(4),
            iter(()), itself, object(), Strange(), Strange, tuple, sorted, ValueError("x"), ..., (None,) * 4,
            (1, 2, 3, 4), ("", "", "", ""), ("a", "b", "c", "d"), ((), (), (), None), ([], [], [], []))


def deep_tuple():
    """Laid so deep that a walk down by calls, or a comparison with its like, would fail."""
    thing = ()
    for turn in range(100000):
        thing = (thing,)
    return thing


def places_in(thing, path=()):
    """The paths to all that is within the tuples of a thing."""
    yield path
    if isinstance(thing, tuple):
        for k, each in enumerate(thing):
            yield from places_in(each, path + (k,))


def put_at(thing, path, other):
    if not path:
        return other
    return thing[:path[0]] + (put_at(thing[path[0]], path[1:], other),) + thing[path[0] + 1:]


def at(thing, path):
    for k in path:
        thing = thing[k]
    return thing
