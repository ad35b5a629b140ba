import unittest

from helper import BOOK, CROSSED, drawn_deeds, own_book, own_hanging, own_things
from twainkeep.books import EMPTY
from twainkeep.deeds import all_done
from twainkeep.errors import Apart, Linked, NoDeed, NoPart, NoPlace, Twice
from twainkeep.hanging import hanging, put_last
from twainkeep.touching import keeps

BOOKS = (BOOK, CROSSED, EMPTY)


class HangingTest(unittest.TestCase):
    def check(self, book, deeds, *expected):
        """Expected: for each k the places of those that hang."""
        self.assertEqual(len(deeds), len(expected))
        for k, places in enumerate(expected):
            self.assertEqual(hanging(book, deeds, k), places, (deeds, k))
            self.assertEqual(hanging(book, deeds, k), places, (deeds, k))
            ahead = tuple(deed for place, deed in enumerate(deeds) if place not in places)
            last = ahead + tuple(deeds[place] for place in places)
            self.assertEqual(put_last(book, deeds, k), last, (deeds, k))
            self.assertEqual(put_last(book, deeds, k), last, (deeds, k))

    def test_of_one(self):
        self.check(BOOK, (("take", 1, "a"),), (0,))
        self.check(EMPTY, (("put", 1, 0, "", "a", ""),), (0,))

    def test_nothing_hangs(self):
        self.check(BOOK, (("change", 1, "a", "x"), ("change", 1, "b", "x"), ("move", 1, "q", "s"), ("alone", 1, "d")),
                   (0,), (1,), (2,), (3,))

    def test_all_behind_hangs(self):
        self.check(EMPTY, (("put", 1, 0, "", "a", "x"), ("put", 1, 0, "a", "b", ""), ("put", 1, 0, "a", "c", ""),
                           ("change", 2, "a", "y"), ("alone", 2, "a")),
                   (0, 1, 2, 3, 4), (1, 2), (2,), (3, 4), (4,))

    def test_one_hangs_by_another_that_hangs(self):
        # Put c doesn't meet put a, but put b that does.
        self.check(EMPTY, (("put", 1, 0, "", "a", ""), ("put", 1, 0, "a", "b", ""), ("put", 1, 0, "b", "c", "")),
                   (0, 1, 2), (1, 2), (2,))
        # A chain of five over four parts, with others between.
        self.check(BOOK, (("change", 1, "d", "x y"), ("change", 1, "a", "x"), ("link", 1, ("d",), ("t",)),
                          ("change", 2, "b", "x"), ("move", 3, "t", "p"), ("put", 4, 1, "p", "u", ""),
                          ("change", 5, "u", "z"), ("change", 5, "c", "z")),
                   (0, 2, 4, 5, 6), (1,), (2, 4, 5, 6), (3,), (4, 5, 6), (5, 6), (6,), (7,))

    def test_none_ahead_hangs(self):
        self.check(BOOK, (("change", 1, "a", "x"), ("change", 2, "b", "x"), ("change", 3, "a", "y"),
                          ("change", 4, "b", "y")),
                   (0, 2), (1, 3), (2,), (3,))

    def test_one_that_meets_a_later_one_only_does_not_hang(self):
        # The change of b meets the step, which hangs; but the change is ahead of it.
        self.check(BOOK, (("change", 1, "q", "x"), ("change", 2, "b", "x"), ("step", 3, "r"), ("take", 4, "g")),
                   (0, 2), (1, 2), (2,), (3,))

    def test_by_what_each_touches_in_the_book_ahead_of_it(self):
        # Ahead of the loose deed taking b would touch q as well.
        self.check(BOOK, (("change", 1, "q", "x"), ("take", 2, "b"), ("take", 3, "e")), (0, 1, 2), (1, 2), (2,))
        self.check(BOOK, (("loose", 1, "b"), ("change", 1, "q", "x"), ("take", 2, "b"), ("take", 3, "e")),
                   (0, 1, 2, 3), (1,), (2,), (3,))

    def test_the_same_deed_twice(self):
        change = ("change", 1, "a", "x")
        other = ("change", 1, "b", "x")
        self.check(BOOK, (change, other, change), (0, 2), (1,), (2,))
        self.check(BOOK, (change, change, other, other), (0, 1), (1,), (2, 3), (3,))
        self.check(EMPTY, (("put", 1, 0, "", "a", ""), ("put", 1, 1, "", "b", ""), ("take", 1, "a"),
                           ("put", 1, 0, "", "a", ""), ("take", 1, "a")),
                   (0, 2, 3, 4), (1,), (2, 3, 4), (3, 4), (4,))
        self.assertEqual(put_last(BOOK, (change, other, change), 0), (other, change, change))
        self.assertEqual(put_last(BOOK, (change, other, change), 2), (change, other, change))

    def test_put_last_where_nothing_is_to_be_moved(self):
        deeds = (("change", 1, "a", "x"), ("change", 1, "b", "x"), ("step", 2, "e"))
        self.assertEqual(put_last(BOOK, deeds, 1), deeds)
        self.assertEqual(put_last(BOOK, deeds, 2), deeds)
        self.assertEqual(put_last(BOOK, deeds, 0), (deeds[1], deeds[2], deeds[0]))

    def test_many_deeds(self):
        deeds = tuple(("change", 1, "abceg"[k % 5], "x") for k in range(200))
        self.assertEqual(hanging(BOOK, deeds, 7), tuple(range(7, 200, 5)))
        self.assertEqual(put_last(BOOK, deeds, 199), deeds)
        self.assertEqual(all_done(BOOK, put_last(BOOK, deeds, 0)), all_done(BOOK, deeds))


class RefusedTest(unittest.TestCase):
    def check(self, error, book, deeds, k):
        for function in (hanging, put_last):
            with self.assertRaises(error, msg=(function, deeds, k)) as caught:
                function(book, deeds, k)
            self.assertIs(type(caught.exception), error)

    def test_no_such_deed(self):
        deeds = (("change", 1, "a", "x"), ("change", 1, "b", "x"), ("step", 2, "e"))
        for count in range(4):
            for k in (-1, -2, -count, -count - 1, -10 ** 20, count, count + 1, 200, 10 ** 20, 10 ** 5000, -10 ** 5000):
                if not 0 <= k < count:
                    self.check(NoDeed, BOOK, deeds[:count], k)
        self.check(NoDeed, EMPTY, (), 0)

    def test_no_such_deed_ahead_of_one_that_can_not_be_done(self):
        for deeds in ((("take", 1, "x"),), (("take", 1, "a"), ("take", 1, "a")), (("put", 1, 0, "", "a", ""),) * 3):
            for k in (-1, len(deeds), len(deeds) + 5):
                self.check(NoDeed, BOOK, deeds, k)

    def test_refused_as_the_first_that_is(self):
        for error, deed in ((NoPart, ("take", 1, "a")), (Apart, ("step", 1, "p")), (Linked, ("alone", 1, "b")),
                            (Twice, ("put", 1, 0, "", "b", "")), (NoPlace, ("move", 1, "b", "p"))):
            deeds = (("take", 1, "a"), ("change", 1, "c", ""), deed, ("take", 1, "x"), ("put", 1, 0, "", "b", ""))
            # Refused wherever it stands: ahead of the k-th, behind it, as the k-th, or where it hangs on nothing.
            for k in range(5):
                self.check(error, BOOK, deeds, k)


class ManyRowsTest(unittest.TestCase):
    def test_put_last_and_taken_out(self):
        moved = 0
        for seed in range(300, 360):
            book = BOOKS[seed % 3]
            deeds = drawn_deeds(seed, book, 14)
            things, behind = own_things(book, deeds), own_book(book, deeds)
            self.assertEqual(all_done(book, deeds), behind)
            for k in range(14):
                places = hanging(book, deeds, k)
                self.assertEqual(list(places), own_hanging(things, k), (deeds, k))
                last = put_last(book, deeds, k)
                self.assertEqual(last[14 - len(places):], tuple(deeds[place] for place in places), (deeds, k))
                self.assertEqual(own_book(book, last), behind, (deeds, k))
                self.assertEqual(all_done(book, last), behind, (deeds, k))
                others = tuple(place for place in range(14) if place not in places)
                self.assertIs(keeps(book, deeds, others + places), True, (deeds, k))
                self.check_without(book, deeds, others, last, things)
                moved += last != deeds
        self.assertGreater(moved, 300)

    def check_without(self, book, deeds, others, last, things):
        kept = tuple(deeds[place] for place in others)
        self.assertEqual(last[:len(kept)], kept)
        without = own_book(book, kept)
        self.assertIsNotNone(without, (deeds, others))
        self.assertEqual(all_done(book, kept), without, (deeds, others))
        # What is left touches the same as ahead of it, and so meets the same.
        self.assertEqual(own_things(book, kept), [things[place] for place in others], (deeds, others))


if __name__ == "__main__":
    unittest.main()
