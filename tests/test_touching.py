import itertools
import unittest

from helper import BOOK, CROSSED, Ledger, every_deed
from twainkeep.books import EMPTY
from twainkeep.errors import Apart, Linked, NoPart, NoPlace, Twice
from twainkeep.touching import keeps, meeting, touched


def parts(names):
    return tuple(("part", name) for name in names)


def spots(names):
    return tuple(("spot", name) for name in names)


class TouchedTest(unittest.TestCase):
    def check(self, deed, expected):
        self.assertEqual(touched(BOOK, deed), expected, deed)
        self.assertEqual(touched(BOOK, deed), expected, deed)

    def test_put(self):
        self.check(("put", 1, 0, "", "x", "y"), (("head", 0), ("part", "x"), ("spot", "x")))
        self.check(("put", 1, 1, "", "x", "y"), (("head", 1), ("part", "x"), ("spot", "x")))
        self.check(("put", 1, 0, "a", "x", "y"), (("part", "x"), ("spot", "a"), ("spot", "x")))
        self.check(("put", 1, 1, "t", "f", "y"), (("part", "f"), ("spot", "f"), ("spot", "t")))

    def test_take(self):
        self.check(("take", 1, "p"), (("part", "a"), ("part", "p"), ("spot", "p")))
        self.check(("take", 1, "e"), parts("beqr") + spots("e"))
        self.check(("take", 1, "c"), (("part", "c"), ("spot", "c")))
        self.check(("take", 1, "d"), (("part", "d"), ("spot", "d")))

    def test_part(self):
        self.check(("part", 1, "b", 3, "x"), parts("bx") + spots("bx"))
        self.check(("part", 1, "s", 1, "f"), parts("fs") + spots("fs"))

    def test_join(self):
        self.check(("join", 1, "b", "e"), parts("be") + spots("e"))
        self.check(("join", 1, "e", "b"), parts("be") + spots("b"))
        self.check(("join", 1, "g", "d"), parts("dg") + spots("d"))

    def test_move(self):
        self.check(("move", 1, "b", ""), (("head", 0), ("spot", "b")))
        self.check(("move", 1, "s", ""), (("head", 1), ("spot", "s")))
        self.check(("move", 1, "b", "a"), spots("ab"))
        self.check(("move", 1, "q", "t"), spots("qt"))

    def test_of_the_part_alone(self):
        self.check(("change", 1, "b", "x"), parts("b"))
        self.check(("word", 1, "b", 1, "x"), parts("b"))
        self.check(("alone", 1, "d"), parts("d"))
        self.check(("lack", 1, "s"), parts("s"))

    def test_link(self):
        self.check(("link", 1, ("g", "d"), ("t",)), parts("dgt") + spots("dgt"))
        self.assertEqual(touched(CROSSED, ("link", 1, ("y", "k"), ("x",))), parts("kxy") + spots("kxy"))

    def test_step_and_loose(self):
        for name in "beqr":
            self.check(("step", 1, name), parts("beqr") + spots("beqr"))
            self.check(("loose", 1, name), parts("beqr"))
        self.assertEqual(touched(CROSSED, ("step", 1, "z")), parts("lmnz") + spots("lmnz"))

    def test_refused_as_done(self):
        cases = ((NoPart, ("take", 1, "x")), (NoPart, ("put", 1, 0, "x", "a", "")),
                 (NoPlace, ("put", 1, 0, "p", "x", "")),
                 (Twice, ("put", 1, 0, "", "a", "")), (Twice, ("part", 1, "a", 0, "p")),
                 (NoPlace, ("part", 1, "a", 0, "x")),
                 (NoPlace, ("join", 1, "a", "p")), (Apart, ("join", 1, "a", "b")), (NoPart, ("move", 1, "a", "x")),
                 (NoPlace, ("move", 1, "a", "a")), (NoPart, ("change", 1, "x", "")),
                 (NoPlace, ("word", 1, "d", 0, "x")),
                 (NoPart, ("link", 1, ("d",), ("x",))), (NoPlace, ("link", 1, ("t",), ("d",))),
                 (Linked, ("link", 1, ("a",), ("t",))), (Apart, ("loose", 1, "c")), (Apart, ("step", 1, "d")),
                 (Linked, ("alone", 1, "a")), (Apart, ("lack", 1, "a")))
        for error, deed in cases:
            with self.assertRaises(error, msg=deed):
                touched(BOOK, deed)

    def test_every_deed_as_the_own_count_says(self):
        for book, names in ((BOOK, "abcdegpqrstx"), (CROSSED, "klmnxyza"), (EMPTY, "ab")):
            for deed in every_deed(sorted(names), 6):
                ledger = Ledger(book)
                refusal = ledger.refusal(deed)
                if refusal is None:
                    self.assertEqual(touched(book, deed), tuple(sorted(ledger.touches(deed))), deed)
                else:
                    with self.assertRaises(refusal, msg=deed):
                        touched(book, deed)


class MeetingTest(unittest.TestCase):
    def check(self, expected, *deeds):
        self.assertEqual(meeting(BOOK, deeds), expected, deeds)
        self.assertEqual(meeting(BOOK, deeds), expected, deeds)

    def test_of_none_and_of_one(self):
        self.check(())
        self.check((), ("take", 1, "a"))
        self.assertEqual(meeting(EMPTY, ()), ())

    def test_the_same_part(self):
        self.check(((0, 1),), ("change", 1, "a", "x"), ("change", 2, "a", "y"))
        self.check((), ("change", 1, "a", "x"), ("change", 2, "b", "y"))
        self.check((), ("change", 1, "b", "x"), ("change", 2, "q", "y"))

    def test_a_part_and_its_spot_are_two_things(self):
        self.check((), ("change", 1, "a", "x"), ("move", 2, "a", "c"))
        self.check(((0, 1),), ("take", 1, "c"), ("put", 2, 0, "b", "c", ""))
        self.check((), ("alone", 1, "d"), ("put", 2, 0, "d", "x", ""))

    def test_the_same_spot_and_the_same_head(self):
        self.check(((0, 1),), ("put", 1, 0, "a", "x", ""), ("put", 1, 0, "a", "y", ""))
        self.check(((0, 1),), ("put", 1, 0, "a", "x", ""), ("put", 1, 0, "x", "y", ""))
        self.check(((0, 1),), ("put", 1, 0, "", "x", ""), ("move", 1, "c", ""))
        self.check((), ("put", 1, 0, "", "x", ""), ("move", 1, "s", ""))
        self.check((), ("put", 1, 0, "a", "x", ""), ("put", 1, 0, "b", "y", ""))

    def test_by_the_members_in_the_book_ahead_of_it(self):
        # Once the link is gone, taking b touches b alone; a link made meanwhile is touched whole.
        self.check(((0, 1), (0, 2), (1, 2)), ("step", 1, "b"), ("loose", 1, "r"), ("take", 1, "b"))
        self.check(((0, 1), (0, 2)), ("loose", 1, "b"), ("take", 1, "b"), ("change", 1, "q", "x"))
        self.check(((0, 2), (1, 2)), ("change", 1, "d", "x"), ("change", 1, "t", "x"), ("link", 1, ("d",), ("t",)))
        self.check(((0, 1), (0, 2), (0, 3), (1, 2), (2, 3)), ("link", 1, ("d", "g"), ("t",)), ("change", 1, "g", "x"),
                   ("step", 2, "t"), ("move", 3, "d", "a"))

    def test_pairs_rise(self):
        self.check(((0, 2), (0, 4), (1, 3), (2, 4)), ("change", 1, "a", "x"), ("change", 1, "b", "x"),
                   ("change", 1, "a", "y"), ("change", 1, "b", "y"), ("change", 1, "a", "z"))

    def test_refused_as_the_first_that_is(self):
        for error, deed in ((NoPart, ("take", 1, "a")), (Apart, ("step", 1, "p")), (Linked, ("alone", 1, "b")),
                            (Twice, ("put", 1, 0, "", "b", "")), (NoPlace, ("move", 1, "b", "p"))):
            deeds = (("take", 1, "a"), deed, ("take", 1, "x"))
            with self.assertRaises(error, msg=deed):
                meeting(BOOK, deeds)
            for places in ((0, 1, 2), ()):
                with self.assertRaises(error, msg=deed):
                    keeps(BOOK, deeds, places)

    def test_many_deeds(self):
        deeds = tuple(("change", 1, "abceg"[k % 5], "x") for k in range(200))
        pairs = tuple((i, j) for i in range(200) for j in range(i + 1, 200) if (j - i) % 5 == 0)
        self.assertEqual(meeting(BOOK, deeds), pairs)
        self.assertIs(keeps(BOOK, deeds, tuple(sorted(range(200), key=lambda k: (k % 5, k)))), True)


class KeepsTest(unittest.TestCase):
    deeds = (("change", 1, "a", "x"), ("change", 1, "b", "x"), ("change", 1, "a", "y"))

    def test_every_order(self):
        for places in itertools.permutations(range(3)):
            self.assertIs(keeps(BOOK, self.deeds, places), places.index(0) < places.index(2), places)

    def test_places_not_ranks(self):
        # (1, 2, 0) does the deeds 1, 2 and 0 in this order: the last one is told ahead of the first.
        deeds = (("change", 1, "b", "x"), ("put", 1, 0, "", "x", ""), ("put", 1, 0, "x", "y", ""))
        self.assertIs(keeps(BOOK, deeds, (1, 2, 0)), True)
        self.assertIs(keeps(BOOK, deeds, (2, 0, 1)), False)

    def test_one_left_out_or_twice(self):
        for places in ((), (0,), (0, 1), (0, 2), (1, 2), (0, 0, 2), (0, 1, 1), (0, 2, 2), (1, 1, 1), (0, 1, 0)):
            self.assertIs(keeps(BOOK, self.deeds, places), False, places)

    def test_out_of_range_or_of_another_length(self):
        for places in ((0, 1, 3), (-1, 0, 1), (1, 2, 3), (0, 1, -1), (0, 1, 10 ** 20), (0, 1, 2, 2), (0, 1, 2, 3),
                       (0, 0, 1, 2), (-3, -2, -1), (0, 1, 2, 0, 1, 2)):
            self.assertIs(keeps(BOOK, self.deeds, places), False, places)

    def test_of_no_deeds(self):
        self.assertIs(keeps(BOOK, (), ()), True)
        self.assertIs(keeps(EMPTY, (), ()), True)
        self.assertIs(keeps(BOOK, (), (0,)), False)

    def test_refused_whatever_the_places(self):
        for places in ((), (0,), (0, 1), (1, 0), (5, 5, 5)):
            with self.assertRaises(NoPart):
                keeps(BOOK, (("take", 1, "a"), ("take", 1, "a")), places)


if __name__ == "__main__":
    unittest.main()
