import random
import unittest

from helper import (
    BOOK, CROSSED, Ledger, drawn_deed, drawn_deeds, every_deed, own_book, own_hanging, own_pairs, own_things)
from twainkeep.books import EMPTY
from twainkeep.deeds import all_done
from twainkeep.errors import Apart, Linked, NoDeed, NoPart, NoPlace, Twice
from twainkeep.keeper import Keeper

BOOKS = (BOOK, CROSSED, EMPTY)


def keeper_of(book, *deeds):
    keeper = Keeper(book)
    for deed in deeds:
        keeper.do(deed)
    return keeper


def all_of(keeper):
    return (keeper.book(), keeper.deeds(), keeper.pairs())


class KeeperTest(unittest.TestCase):
    def check(self, keeper, book, deeds, pairs):
        for turn in range(2):
            self.assertEqual(keeper.book(), book)
            self.assertEqual(keeper.deeds(), deeds)
            self.assertEqual(keeper.pairs(), pairs)
        self.assertIsInstance(keeper.deeds(), tuple)
        self.assertIsInstance(keeper.pairs(), tuple)

    def refused(self, error, keeper, method, *given):
        """Refused with just this error, nothing being changed."""
        ahead = all_of(keeper)
        with self.assertRaises(error, msg=(method, given)) as caught:
            getattr(keeper, method)(*given)
        self.assertIs(type(caught.exception), error)
        self.assertEqual(all_of(keeper), ahead, (method, given))

    def test_at_first(self):
        for book in BOOKS:
            self.check(Keeper(book), book, (), ())

    def test_do(self):
        put = ("put", 1, 0, "", "a", "x")
        other = ("put", 2, 1, "", "b", "y")
        keeper = Keeper(EMPTY)
        self.assertIsNone(keeper.do(put))
        self.check(keeper, ((("a", "x", (1,)),), (), (), ()), (put,), ())
        self.assertIsNone(keeper.do(other))
        self.check(keeper, ((("a", "x", (1,)),), (("b", "y", (2,)),), (), ()), (put, other), ())
        link = ("link", 0, ("a",), ("b",))
        self.assertIsNone(keeper.do(link))
        self.check(keeper, ((("a", "x", (1,)),), (("b", "y", (2,)),), ((("a",), ("b",), 0, ((), ())),), ()),
                   (put, other, link), (("x", "y", 0),))
        change = ("change", 5, "a", "z")
        keeper = Keeper(BOOK)
        self.assertIsNone(keeper.do(change))
        self.check(keeper, all_done(BOOK, (change,)), (change,), ())

    def test_do_refused_as_done(self):
        for error, deed in ((NoPart, ("take", 1, "x")), (Apart, ("step", 1, "c")), (Linked, ("alone", 1, "b")),
                            (Twice, ("put", 1, 0, "", "b", "")), (NoPlace, ("move", 1, "b", "p"))):
            self.refused(error, Keeper(BOOK), "do", deed)
            self.refused(error, keeper_of(BOOK, ("step", 3, "q"), ("change", 4, "g", "")), "do", deed)
        self.refused(NoPart, Keeper(EMPTY), "do", ("take", 1, "a"))

    def test_every_deed_as_the_own_count_says(self):
        first = (("step", 3, "q"), ("take", 4, "g"))
        ledger = Ledger(all_done(BOOK, first))
        refused = keeper_of(BOOK, *first)
        for deed in every_deed(sorted("abcdegpqrstx"), 6):
            error = ledger.refusal(deed)
            if error is None:
                self.assertEqual(keeper_of(BOOK, *first, deed).book(), own_book(BOOK, first + (deed,)), deed)
            else:
                self.refused(error, refused, "do", deed)

    def test_a_refused_deed_is_not_gone_back_over(self):
        keeper = keeper_of(BOOK, ("change", 1, "a", "x"), ("change", 1, "b", "x"))
        self.refused(NoPart, keeper, "do", ("change", 1, "x", "x"))
        keeper.back()
        self.check(keeper, all_done(BOOK, (("change", 1, "a", "x"),)), (("change", 1, "a", "x"),), ())

    def test_back_to_none_and_once_more(self):
        for book in BOOKS:
            keeper = Keeper(book)
            self.refused(NoDeed, keeper, "back")
            put = ("put", 1, 0, "", "u", "x")
            more = ("put", 1, 0, "u", "v", "x")
            keeper.do(put)
            keeper.do(more)
            self.assertIsNone(keeper.back())
            self.check(keeper, all_done(book, (put,)), (put,), ())
            self.assertIsNone(keeper.back())
            self.check(keeper, book, (), ())
            self.refused(NoDeed, keeper, "back")
            self.refused(NoDeed, keeper, "back")
            keeper.do(more[:3] + ("",) + more[4:])
            self.assertEqual(keeper.book(), all_done(book, (more[:3] + ("",) + more[4:],)))

    def test_back_undoes_the_last_alone(self):
        # The deed undone meets none of the others.
        keeper = keeper_of(BOOK, ("change", 1, "a", "x"), ("change", 2, "a", "y"), ("step", 3, "q"))
        keeper.back()
        self.check(keeper, all_done(BOOK, (("change", 1, "a", "x"), ("change", 2, "a", "y"))),
                   (("change", 1, "a", "x"), ("change", 2, "a", "y")), ())

    def test_out(self):
        deeds = (("change", 1, "a", "x"), ("change", 1, "b", "x"), ("step", 2, "p"), ("step", 2, "q"),
                 ("take", 3, "g"))
        kept = ((1, 3, 4), (0, 2, 4), (0, 1, 3, 4), (0, 1, 2, 4), (0, 1, 2, 3))
        pairs = (("x", "Eins zwei.", 2), ("xSix-seven 8", "Dreivier", 2))
        told = (pairs[1:], pairs[:1], pairs[1:], pairs[:1], pairs)
        for k in range(5):
            keeper = keeper_of(BOOK, *deeds)
            self.assertIsNone(keeper.out(k))
            left = tuple(deeds[place] for place in kept[k])
            self.check(keeper, all_done(BOOK, left), left, told[k])

    def test_out_of_one_on_which_all_hangs(self):
        deeds = (("put", 1, 0, "", "a", "x"), ("put", 1, 0, "a", "b", "y"), ("put", 1, 0, "b", "c", "z"))
        keeper = keeper_of(EMPTY, *deeds)
        keeper.out(1)
        self.check(keeper, all_done(EMPTY, deeds[:1]), deeds[:1], ())
        keeper.out(0)
        self.check(keeper, EMPTY, (), ())
        self.refused(NoDeed, keeper, "out", 0)
        self.refused(NoDeed, keeper, "back")

    def test_out_of_one_of_two_that_are_the_same(self):
        change = ("change", 1, "a", "x")
        keeper = keeper_of(BOOK, change, change, ("change", 1, "b", ""))
        keeper.out(1)
        self.check(keeper, all_done(BOOK, (change, ("change", 1, "b", ""))), (change, ("change", 1, "b", "")), ())

    def test_out_of_places_that_are_not_there(self):
        for k in (-1, 0, 1, 10 ** 20):
            self.refused(NoDeed, Keeper(EMPTY), "out", k)
            self.refused(NoDeed, Keeper(BOOK), "out", k)
        keeper = keeper_of(BOOK, ("change", 1, "a", "x"), ("step", 1, "q"), ("take", 1, "g"))
        for k in (-1, -2, -3, -4, -10 ** 5000, 3, 4, 200, 10 ** 5000):
            self.refused(NoDeed, keeper, "out", k)

    def test_places_are_of_those_that_stand(self):
        keeper = keeper_of(BOOK, ("change", 1, "a", "x"), ("change", 1, "b", "x"), ("change", 1, "c", "x"))
        keeper.out(0)
        keeper.out(0)
        self.check(keeper, all_done(BOOK, (("change", 1, "c", "x"),)), (("change", 1, "c", "x"),), ())
        self.refused(NoDeed, keeper, "out", 1)
        keeper.do(("change", 1, "d", "x"))
        keeper.back()
        keeper.back()
        self.check(keeper, BOOK, (), ())

    def test_two_keepers_of_one_book(self):
        for book in BOOKS:
            one, other = Keeper(book), Keeper(book)
            one.do(("put", 1, 0, "", "u", "x"))
            self.check(other, book, (), ())
            other.do(("put", 2, 1, "", "v", "y"))
            other.do(("put", 2, 1, "v", "u", "y"))
            self.check(one, all_done(book, (("put", 1, 0, "", "u", "x"),)), (("put", 1, 0, "", "u", "x"),), ())
            one.back()
            self.assertEqual(len(other.deeds()), 2)
            other.out(0)
            self.assertEqual(all_of(one), all_of(other))

    def test_what_is_told_stays_as_it_is(self):
        keeper = keeper_of(BOOK, ("change", 1, "a", "x"), ("step", 2, "p"))
        told = all_of(keeper)
        copied = (all_done(BOOK, (("change", 1, "a", "x"), ("step", 2, "p"))),
                  (("change", 1, "a", "x"), ("step", 2, "p")), (("x", "Eins zwei.", 2),))
        keeper.do(("step", 3, "q"))
        self.assertEqual(told, copied)
        keeper.out(0)
        self.assertEqual(told, copied)
        keeper.back()
        self.assertEqual(told, copied)
        self.assertEqual(all_of(keeper), (BOOK, (), ()))

    def test_what_is_told_may_be_handed_in(self):
        one = keeper_of(BOOK, ("change", 1, "a", "x"), ("step", 2, "p"))
        other = keeper_of(one.book(), ("step", 3, "q"))
        self.check(other, all_done(BOOK, one.deeds() + other.deeds()), (("step", 3, "q"),),
                   (("Three, fourSix-seven 8", "Dreivier", 3),))
        other.back()
        self.assertEqual(other.book(), one.book())

    def test_many_deeds(self):
        deeds = tuple(("change", 1, "abceg"[k % 5], "x") for k in range(200))
        keeper = keeper_of(BOOK, *deeds)
        keeper.out(0)
        self.assertEqual(len(keeper.deeds()), 160)
        self.assertEqual(keeper.book(), all_done(BOOK, deeds[1:5]))
        for turn in range(160):
            keeper.back()
        self.check(keeper, BOOK, (), ())


class PairsTest(unittest.TestCase):
    def check(self, book, deeds, *expected):
        self.assertEqual(keeper_of(book, *deeds).pairs(), expected, deeds)

    def test_link(self):
        self.check(BOOK, (("link", 9, ("g",), ("t",)),), ("x", "t", 9))
        self.check(BOOK, (("link", 9, ("d",), ("t",)),), ("", "t", 9))

    def test_texts_in_the_order_of_their_sides(self):
        # Neither in that of the deed nor in that of the names.
        self.check(CROSSED, (("link", 4, ("k", "y"), ("x",)),), ("ghij kl", "X x", 4))
        self.check(CROSSED, (("link", 4, ("y", "k"), ("x",)),), ("ghij kl", "X x", 4))
        self.check(CROSSED, (("step", 7, "l"),), ("ab cdef", "N n", 7))
        self.check(CROSSED, (("loose", 7, "l"), ("link", 8, ("k", "m", "z", "y"), ("l", "x", "n"))),
                   ("ab cdefghij kl", "N nX x", 8))

    def test_step_of_any_of_its_names(self):
        for name in "beqr":
            self.check(BOOK, (("step", 7, name),), ("Three, fourSix-seven 8", "Dreivier", 7))

    def test_behind_moves(self):
        self.check(CROSSED, (("move", 1, "z", "y"), ("step", 7, "m"), ("move", 8, "m", "k"), ("step", 8, "m"),
                             ("move", 8, "l", ""), ("change", 9, "l", "L"), ("step", 9, "z")),
                   ("efab cd", "N n", 7), ("ab cdef", "N n", 8), ("ab cdef", "LN n", 9))

    def test_behind_changes(self):
        # Each pair as it stood behind its deed, whatever was changed afterwards.
        self.check(BOOK, (("step", 1, "a"), ("change", 2, "a", "x"), ("word", 2, "p", 1, "drei"), ("step", 3, "p"),
                          ("part", 4, "p", 2, "u"), ("change", 5, "u", "!"), ("step", 6, "u"), ("take", 7, "p"),
                          ("step", 8, "a"), ("loose", 9, "a")),
                   ("One two.", "Eins zwei.", 1), ("x", "Eins drei.", 3), ("x", "Ei!", 6), ("x", "!", 8))
        self.check(BOOK, (("join", 1, "e", "b"), ("step", 2, "e"), ("join", 3, "q", "r"), ("step", 4, "q")),
                   ("Six-seven 8Three, four", "Dreivier", 2), ("Six-seven 8Three, four", "Dreivier", 4))

    def test_no_other_deed_tells_one(self):
        self.check(BOOK, (("put", 1, 0, "", "u", ""), ("part", 1, "b", 2, "v"), ("join", 1, "b", "v"),
                          ("move", 1, "b", ""), ("change", 1, "b", "x"), ("word", 1, "b", 0, "y"), ("take", 1, "e"),
                          ("loose", 1, "b"), ("alone", 1, "b"), ("lack", 1, "b")))

    def test_told_twice(self):
        self.check(BOOK, (("step", 1, "a"), ("step", 1, "p")), ("One two.", "Eins zwei.", 1),
                   ("One two.", "Eins zwei.", 1))

    def test_moments_that_do_not_rise(self):
        self.check(BOOK, (("step", 10 ** 12, "a"), ("step", 0, "q"), ("step", 5, "a")),
                   ("One two.", "Eins zwei.", 10 ** 12), ("Three, fourSix-seven 8", "Dreivier", 0),
                   ("One two.", "Eins zwei.", 5))

    def test_gone_back_and_taken_out(self):
        keeper = keeper_of(BOOK, ("change", 1, "a", "x"), ("step", 2, "a"), ("step", 3, "q"), ("step", 4, "p"))
        keeper.back()
        self.assertEqual(keeper.pairs(), (("x", "Eins zwei.", 2), ("Three, fourSix-seven 8", "Dreivier", 3)))
        keeper.out(0)
        self.assertEqual(keeper.pairs(), (("Three, fourSix-seven 8", "Dreivier", 3),))
        keeper.do(("step", 5, "a"))
        self.assertEqual(keeper.pairs(), (("Three, fourSix-seven 8", "Dreivier", 3), ("One two.", "Eins zwei.", 5)))


class ManyRowsTest(unittest.TestCase):
    def test_back_deed_by_deed(self):
        told = 0
        for seed in range(600, 640):
            book = BOOKS[seed % 3]
            deeds = drawn_deeds(seed, book, 20)
            keeper = Keeper(book)
            ahead = []
            for count, deed in enumerate(deeds):
                ahead.append(all_of(keeper))
                keeper.do(deed)
                self.assertEqual(keeper.book(), own_book(book, deeds[:count + 1]))
            self.assertEqual(keeper.pairs(), tuple(own_pairs(book, deeds).values()))
            told += len(keeper.pairs())
            while ahead:
                keeper.back()
                self.assertEqual(all_of(keeper), ahead.pop(), (deeds, len(ahead)))
            self.assertEqual(all_of(keeper), (book, (), ()))
        self.assertGreater(told, 50)

    def test_deeds_back_and_out_in_any_order(self):
        gone = 0
        for seed in range(700, 740):
            book = BOOKS[seed % 3]
            draw, keeper, standing = random.Random(seed), Keeper(book), ()
            for turn in range(40):
                choice = draw.randrange(12)
                if choice == 0:
                    standing = self.back(keeper, standing)
                elif choice == 1:
                    count = len(standing)
                    standing = self.out(keeper, book, standing, draw.randrange(-1, len(standing) + 1))
                    gone += count - len(standing) > 1
                else:
                    standing = self.do(keeper, book, standing, draw)
                self.assertEqual(all_of(keeper), (own_book(book, standing), standing,
                                                  tuple(own_pairs(book, standing).values())), (seed, standing))
        self.assertGreater(gone, 20)

    def do(self, keeper, book, standing, draw):
        ledger = Ledger(own_book(book, standing))
        deed = drawn_deed(draw, ledger)
        error = ledger.refusal(deed)
        if error is None:
            keeper.do(deed)
            return standing + (deed,)
        with self.assertRaises(error):
            keeper.do(deed)
        return standing

    def back(self, keeper, standing):
        if standing:
            keeper.back()
            return standing[:-1]
        with self.assertRaises(NoDeed):
            keeper.back()
        return standing

    def out(self, keeper, book, standing, k):
        if k not in range(len(standing)):
            with self.assertRaises(NoDeed):
                keeper.out(k)
            return standing
        keeper.out(k)
        places = own_hanging(own_things(book, standing), k)
        return tuple(deed for place, deed in enumerate(standing) if place not in places)


if __name__ == "__main__":
    unittest.main()
