import itertools
import random
import unittest

from helper import BOOK, CROSSED, drawn_deeds, own_book, own_pairs, own_things
from twainkeep.books import EMPTY
from twainkeep.deeds import all_done
from twainkeep.editors import merged
from twainkeep.errors import Apart, Linked, NoPart, NoPlace, Twice
from twainkeep.touching import keeps

BOOKS = (BOOK, CROSSED, EMPTY)


class MergedTest(unittest.TestCase):
    def check(self, book, ones, others, meets, left):
        kept = tuple(deed for place, deed in enumerate(others) if place not in left)
        made = all_done(all_done(book, ones), kept)
        self.assertEqual(merged(book, ones, others), (made, meets, left), (ones, others))
        self.assertEqual(merged(book, ones, others), (made, meets, left), (ones, others))
        return made

    def test_no_deeds(self):
        deeds = (("change", 1, "a", "x"), ("change", 1, "a", "y"), ("take", 1, "g"))
        for book in BOOKS:
            self.assertEqual(self.check(book, (), (), (), ()), book)
        self.assertEqual(self.check(BOOK, deeds, (), (), ()), all_done(BOOK, deeds))
        self.assertEqual(self.check(BOOK, (), deeds, (), ()), all_done(BOOK, deeds))

    def test_rows_that_do_not_meet(self):
        made = self.check(BOOK, (("change", 7, "a", "x"), ("put", 8, 0, "a", "u", "new")),
                          (("move", 6, "q", "s"), ("change", 9, "b", "y")), (), ())
        self.assertEqual([part[:2] for part in made[0]], [
            ("a", "x"), ("u", "new"), ("b", "y"), ("c", "Five"), ("d", ""), ("e", "Six-seven 8"), ("g", "x")])
        self.assertEqual([part[0] for part in made[1]], ["p", "r", "s", "q", "t"])

    def test_rows_that_meet(self):
        made = self.check(BOOK, (("change", 7, "a", "x"), ("change", 8, "b", "x")),
                          (("change", 9, "a", "y"), ("change", 9, "c", "y")), ((0, 0),), (0,))
        self.assertEqual([part[:2] for part in made[0][:3]], [("a", "x"), ("b", "x"), ("c", "y")])

    def test_a_row_with_itself(self):
        deeds = (("change", 7, "a", "x"), ("change", 8, "b", "x"), ("change", 8, "a", "z"))
        made = self.check(BOOK, deeds, deeds, ((0, 0), (0, 2), (1, 1), (2, 0), (2, 2)), (0, 1, 2))
        self.assertEqual(made, all_done(BOOK, deeds))

    def test_left_as_one_ahead_of_it_is_left(self):
        # Neither putting v nor changing it meets one of the ones.
        ones = (("change", 7, "a", "x"), ("change", 7, "g", "x"))
        others = (("part", 8, "a", 3, "u"), ("put", 8, 0, "u", "v", ""), ("change", 9, "v", "w"), ("alone", 9, "d"))
        self.check(BOOK, ones, others, ((0, 0),), (0, 1, 2))

    def test_left_by_a_chain_of_left_ones(self):
        ones = (("move", 1, "p", "t"),)
        others = (("put", 1, 1, "p", "u", "x"), ("change", 2, "s", "x"), ("link", 3, ("d",), ("u",)),
                  ("change", 4, "d", "x"), ("change", 4, "q", "x"), ("loose", 5, "d"))
        self.check(BOOK, ones, others, ((0, 0),), (0, 2, 3, 5))

    def test_one_ahead_of_a_left_one_is_not_left(self):
        # The change of b meets the step, which is left; but it stands ahead of it.
        self.check(BOOK, (("change", 1, "q", "x"),), (("change", 2, "b", "x"), ("step", 3, "r"), ("take", 4, "g")),
                   ((0, 1),), (1,))

    def test_one_that_meets_a_kept_one_is_not_left(self):
        self.check(BOOK, (("change", 1, "q", "x"),), (("change", 2, "b", "x"), ("change", 3, "b", "y")), (), ())

    def test_meets_rise_and_are_all_told(self):
        ones = (("change", 1, "b", "x"), ("change", 1, "a", "x"), ("move", 1, "c", "a"))
        others = (("step", 2, "p"), ("step", 2, "q"), ("put", 3, 0, "a", "u", ""), ("step", 4, "r"))
        self.check(BOOK, ones, others, ((0, 1), (0, 3), (1, 0), (2, 0), (2, 2)), (0, 1, 2, 3))

    def test_the_same_name_put_in_by_both(self):
        put = ("put", 1, 0, "", "u", "x")
        made = self.check(EMPTY, (put,), (put,), ((0, 0),), (0,))
        self.assertEqual(made, ((("u", "x", (1,)),), (), (), ()))
        # Of two sides, and a part behind it: spots go by name as well.
        others = (("put", 2, 1, "", "u", "y"), ("put", 2, 1, "u", "v", "z"), ("put", 2, 1, "v", "w", "z"))
        made = self.check(EMPTY, (put,), others, ((0, 0), (0, 1)), (0, 1, 2))
        self.assertEqual(made, ((("u", "x", (1,)),), (), (), ()))
        made = self.check(BOOK, (("part", 1, "a", 3, "u"),), (("part", 1, "q", 2, "u"), ("put", 1, 0, "d", "v", "")),
                          ((0, 0),), (0,))
        self.assertEqual([part[0] for part in made[0] + made[1]], list("aubcdvegpqrst"))

    def test_each_by_what_it_touches_in_its_own_row(self):
        # Behind the loose deed of the ones taking b would not touch q; in its own row it does.
        self.check(BOOK, (("change", 1, "q", "x"),), (("take", 1, "b"),), ((0, 0),), (0,))
        self.check(BOOK, (("loose", 1, "q"), ("change", 1, "q", "x")), (("take", 1, "b"),), ((0, 0), (1, 0)), (0,))
        self.check(BOOK, (("change", 1, "q", "x"),), (("loose", 1, "b"), ("take", 1, "b")), ((0, 0),), (0, 1))
        self.check(BOOK, (("change", 1, "t", "x"),), (("link", 1, ("d",), ("t",)), ("take", 1, "d")),
                   ((0, 0), (0, 1)), (0, 1))

    def test_each_other_can_be_done_in_its_own_row_alone(self):
        # Behind the ones this would be refused; it is left, not refused.
        self.check(BOOK, (("take", 1, "a"),), (("change", 1, "a", "x"), ("change", 1, "b", "x")), ((0, 0),), (0,))
        self.check(BOOK, (("alone", 1, "d"),), (("link", 1, ("d",), ("t",)),), ((0, 0),), (0,))

    def test_many_deeds(self):
        ones = tuple(("change", 1, "abc"[k % 3], "x") for k in range(200))
        others = tuple(("change", 2, "ceg"[k % 3], "y") for k in range(200))
        made, meets, left = merged(BOOK, ones, others)
        self.assertEqual(left, tuple(range(0, 200, 3)))
        self.assertEqual(meets, tuple((i, j) for i in range(2, 200, 3) for j in range(0, 200, 3)))
        self.assertEqual(made, own_book(BOOK, ones + tuple(deed for deed in others if deed[2] != "c")))


class RefusedTest(unittest.TestCase):
    cases = ((NoPart, ("take", 1, "x")), (Apart, ("step", 1, "c")), (Linked, ("alone", 1, "b")),
             (Twice, ("put", 1, 0, "", "b", "")), (NoPlace, ("move", 1, "b", "p")))
    good = ("change", 1, "a", "x")

    def check(self, error, ones, others):
        with self.assertRaises(error, msg=(ones, others)) as caught:
            merged(BOOK, ones, others)
        self.assertIs(type(caught.exception), error)

    def test_of_the_ones(self):
        for error, deed in self.cases:
            for ones in ((deed,), (self.good, deed), (deed, self.good)):
                for others in ((), (self.good,)):
                    self.check(error, ones, others)

    def test_of_the_others(self):
        for error, deed in self.cases:
            for others in ((deed,), (self.good, deed), (deed, self.good)):
                # Refused as well where the deed would be left.
                for ones in ((), (self.good,), (("change", 1, "b", "y"), ("alone", 1, "d"))):
                    self.check(error, ones, others)

    def test_of_both(self):
        for (error, deed), (other_error, other) in itertools.permutations(self.cases, 2):
            self.check(error, (deed,), (other,))
            self.check(error, (self.good, self.good, deed), (other,))
            self.check(error, (deed, other), (other, deed))

    def test_the_others_are_not_done_behind_the_ones(self):
        self.check(NoPart, (("put", 1, 0, "", "u", ""),), (("change", 1, "u", "x"),))
        self.check(Apart, (("link", 1, ("d",), ("t",)),), (("step", 1, "d"),))


class ManyRowsTest(unittest.TestCase):
    def each_two_rows(self):
        for seed in range(400, 520):
            book = BOOKS[seed % 3]
            count = 1 + seed % 7
            yield seed, book, drawn_deeds(seed, book, count), drawn_deeds(seed + 1000, book, 8 - count)

    def own_left(self, things, met):
        left = []
        for j in range(len(things)):
            if j in met or any(things[j] & things[i] for i in left):
                left.append(j)
        return tuple(left)

    def mixed(self, draw, ones, others):
        """Both rows in one, each in its own order."""
        turns = [0] * len(ones) + [1] * len(others)
        draw.shuffle(turns)
        rows = (list(ones), list(others))
        return tuple(rows[turn].pop(0) for turn in turns)

    def test_as_the_own_count_says(self):
        whole, some, none = 0, 0, 0
        for seed, book, ones, others in self.each_two_rows():
            made, meets, left = merged(book, ones, others)
            own, other = own_things(book, ones), own_things(book, others)
            pairs = itertools.product(range(len(ones)), range(len(others)))
            self.assertEqual(meets, tuple((i, j) for i, j in pairs if own[i] & other[j]), (ones, others))
            self.assertEqual(left, self.own_left(other, [j for i, j in meets]), (ones, others))
            kept = tuple(deed for place, deed in enumerate(others) if place not in left)
            self.assertEqual(made, own_book(book, ones + kept), (ones, others))
            whole, some, none = whole + (kept == others), some + (0 < len(kept) < len(others)), none + (kept == ())
        # The rows are worth something only if all of this comes in them.
        self.assertGreater(min(whole, none), 5)
        self.assertGreater(some, 5)

    def test_the_same_book_in_mixed_orders(self):
        orders = set()
        for seed, book, ones, others in self.each_two_rows():
            made, meets, left = merged(book, ones, others)
            kept = tuple(deed for place, deed in enumerate(others) if place not in left)
            self.assertEqual(own_book(book, kept + ones), made, (ones, kept))
            told = sorted(own_pairs(book, ones + kept).values())
            draw = random.Random(seed)
            for turn in range(5):
                row = self.mixed(draw, ones, kept)
                orders.add((seed, row))
                self.assertEqual(own_book(book, row), made, row)
                self.assertEqual(all_done(book, row), made, row)
                self.assertEqual(sorted(own_pairs(book, row).values()), told, row)
        self.assertGreater(len(orders), 200)

    def test_mixed_orders_keep(self):
        for seed, book, ones, others in self.each_two_rows():
            left = merged(book, ones, others)[2]
            kept = tuple(deed for place, deed in enumerate(others) if place not in left)
            draw = random.Random(seed)
            places = self.mixed(draw, tuple(range(len(ones))), tuple(range(len(ones), len(ones) + len(kept))))
            self.assertIs(keeps(book, ones + kept, places), True, (ones, kept, places))


if __name__ == "__main__":
    unittest.main()
