import itertools
import random
import time
import unittest

from helper import BOOK, CROSSED, TONGUES, WORDS, Ledger, drawn_deeds, drawn_text, is_plain, own_hits
from twainkeep.books import EMPTY
from twainkeep.deeds import all_done, begun
from twainkeep.fitting import fits_of

KNOWN = (("dog", "hund"), ("cat", "katze"), ("cat", "kater"), ("two", "2"))

# The names of the parts don't rise as their places do.
PETS = (
    (("m", "A dog, a cat.", (1,)), ("b", "Two cats.", (1,)), ("z", "The CAT", (1,)), ("d", "", (1,)),
     ("l", "dog", (1,))),
    (("y", "Katze oder Kater", (1,)), ("a", "Hund. Katze.", (1,)), ("n", "2 Hunde", (1,)), ("k", "Hund", (1,))),
    ((("l",), ("k",), 1, ((), ())),),
    ())


def own_fits(book, words, least):
    ledger = Ledger(book)
    free = [name for name in sorted(ledger.kin) if ledger.kin[name] is None]
    return tuple((one, other) for one in free for other in free if (ledger.side(one), ledger.side(other)) == (0, 1)
                 and own_hits((ledger.texts[one],), (ledger.texts[other],), words) >= least)


class FitsTest(unittest.TestCase):
    def test_no_part(self):
        for least in (0, 1, 5):
            self.assertEqual(fits_of(EMPTY, (), least), ())
            self.assertEqual(fits_of(EMPTY, KNOWN, least), ())

    def test_one_side_alone(self):
        for book in ((PETS[0], (), (), ()), ((), PETS[1], (), ())):
            for least in (0, 1):
                self.assertEqual(fits_of(book, KNOWN, least), ())

    def test_none_lacking(self):
        linked = (PETS[0], PETS[1], ((("b", "d", "l", "m", "z"), ("a", "k", "n", "y"), 1, ((), ())),), ())
        alone = (PETS[0], PETS[1], (), ("a", "b", "d", "k", "l", "m", "n", "y", "z"))
        for book, least in itertools.product((linked, alone), (0, 1, 2)):
            self.assertEqual(fits_of(book, KNOWN, least), ())
        # None on one side.
        self.assertEqual(fits_of((PETS[0], PETS[1], (), ("a", "k", "n", "y")), KNOWN, 0), ())
        self.assertEqual(fits_of((PETS[0], PETS[1], (), ("b", "d", "l", "m", "z")), KNOWN, 0), ())

    def test_least_of_nought(self):
        self.assertEqual(fits_of(PETS, KNOWN, 0), tuple(itertools.product("bdmz", "any")))
        self.assertEqual(fits_of(PETS, (), 0), tuple(itertools.product("bdmz", "any")))

    def test_least_of_one(self):
        self.assertEqual(fits_of(PETS, KNOWN, 1),
                         (("b", "n"), ("m", "a"), ("m", "y"), ("z", "a"), ("z", "y")))
        self.assertEqual(fits_of(PETS, (), 1), ())
        self.assertEqual(fits_of(PETS, (("horse", "pferd"), ("hund", "dog")), 1), ())

    def test_least_of_more(self):
        self.assertEqual(fits_of(PETS, KNOWN, 2), (("m", "a"), ("m", "y"), ("z", "y")))
        self.assertEqual(fits_of(PETS, KNOWN, 3), ())
        self.assertEqual(fits_of(PETS, KNOWN + (("dog", "katze"),), 3), (("m", "a"), ("m", "y")))
        self.assertEqual(fits_of(PETS, KNOWN + (("dog", "katze"), ("a", "hund")), 4), (("m", "a"),))
        self.assertEqual(fits_of(PETS, KNOWN, 10 ** 6), ())

    def test_linked_and_alone_ones_are_not_among_them(self):
        # l and k would hit, and more so with the others.
        self.assertEqual(fits_of((PETS[0], PETS[1], (), ()), (("dog", "hund"),), 1),
                         (("l", "a"), ("l", "k"), ("m", "a"), ("m", "k")))
        self.assertEqual(fits_of(PETS, (("dog", "hund"),), 1), (("m", "a"),))
        self.assertEqual(fits_of((PETS[0], PETS[1], (), ("a", "l")), (("dog", "hund"),), 1), (("m", "k"),))
        self.assertEqual(fits_of(BOOK, (), 0), (("d", "t"), ("g", "t")))
        self.assertEqual(fits_of(BOOK, (("x", "t"),), 1), (("g", "t"),))
        self.assertEqual(fits_of(CROSSED, (("gh", "x"), ("ij", "x"), ("kl", "x"), ("ab", "n")), 2), (("k", "x"),))

    def test_a_book_begun(self):
        book = begun("One dog. Two cats. Rain.", "Regen. Ein Hund.", (((".",), ()),), 3)
        words = (("rain", "regen"), ("dog", "hund"), ("cat", "katze"))
        self.assertEqual(fits_of(book, words, 1), (("a", "e"), ("c", "d")))

    def test_as_the_own_count_says(self):
        draw = random.Random(22)
        seen = 0
        for seed in range(60):
            left, right, links, alone = all_done(PETS, drawn_deeds(seed, PETS, 5))
            left = tuple((part[0], drawn_text(draw, 0) + drawn_text(draw, 0), part[2]) for part in left)
            right = tuple((part[0], drawn_text(draw, 1) + drawn_text(draw, 1), part[2]) for part in right)
            book = (left, right, links, alone)
            for least in range(4):
                told = fits_of(book, WORDS, least)
                self.assertEqual(told, own_fits(book, WORDS, least), (book, least))
                self.assertTrue(is_plain(told))
                self.assertEqual(list(told), sorted(set(told)))
                self.assertEqual(fits_of(book, WORDS, least), told)
                seen += least > 0 and len(told) > 1
        self.assertGreater(seen, 30)

    def test_many_parts_in_a_bearable_time(self):
        names = ["".join(pair) for pair in itertools.product("abcdefghijkl", "vwxyz")]
        sides = [tuple((side + name, " ".join(tongue * 12)[:400], (1,)) for name in names)
                 for side, tongue in zip("lr", TONGUES)]
        book = (sides[0], sides[1], (), ())
        begin = time.perf_counter()
        self.assertEqual(len(fits_of(book, WORDS, 8)), 3600)
        self.assertEqual(fits_of(book, WORDS, 9), ())
        self.assertLess(time.perf_counter() - begin, 5)


if __name__ == "__main__":
    unittest.main()
