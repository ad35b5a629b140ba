import collections
import itertools
import random
import time
import unittest

from helper import drawn_case, is_plain, own_book, own_grid, own_is_paper, own_rests, own_step_cost, own_steps, \
    own_way_cost, own_ways, places_of
from twainkeep.books import is_book
from twainkeep.deeds import all_done, is_deed
from twainkeep.finding import least_way, link_deeds
from twainkeep.states import in_step, lacking
from twainkeep.touching import meeting

NOUGHT = (0, 0, 0, 0, 0)


def left_alone(i):
    return (((i,), ()),)


def right_alone(j):
    return (((), (j,)),)


def both(i, j):
    return (((i,), (j,)),)


def crossed(i, j):
    return (((i,), (j + 1,)), ((i + 1,), (j,)))


def kind_of(step):
    return "crossed" if len(step) == 2 else (len(step[0][0]), len(step[0][1]))


class LeastWayTest(unittest.TestCase):
    def found(self, ones, others, words, prices):
        """What is told, without its grid, of which it is asked whether it is one."""
        told = least_way(ones, others, words, prices)
        self.assertIsInstance(told, tuple)
        self.assertEqual(len(told), 3)
        self.assertTrue(is_plain(told))
        self.held_grid(ones, others, words, prices, told)
        self.assertEqual(least_way(ones, others, words, prices), told)
        return told[:2]

    def held_grid(self, ones, others, words, prices, told):
        cost, way, grid = told
        self.assertIsInstance(grid, tuple)
        self.assertEqual(len(grid), len(ones) + 1)
        for row in grid:
            self.assertIsInstance(row, tuple)
            self.assertEqual(len(row), len(others) + 1)
        self.assertEqual((grid[0][0], grid[-1][-1]), (0, cost))
        self.assertTrue(own_is_paper(ones, others, words, prices, cost, grid), (ones, others, words, prices))

    def test_none_and_none(self):
        for prices in (NOUGHT, (1, 2, 3, 4, 5), (10 ** 6,) * 5):
            self.assertEqual(least_way((), (), (), prices), (0, (), ((0,),)))
            self.assertEqual(least_way((), (), (("a", "b"),), prices), (0, (), ((0,),)))

    def test_none_and_some(self):
        self.assertEqual(self.found((), ("x",), (), (7, 1, 1, 1, 1)), (7, (right_alone(0),)))
        self.assertEqual(self.found((), ("x", "", "z"), (), (7, 1, 1, 1, 1)), (21, tuple(map(right_alone, range(3)))))
        self.assertEqual(self.found((), ("x",) * 24, (), (10 ** 6, 0, 0, 0, 0))[0], 24 * 10 ** 6)

    def test_some_and_none(self):
        self.assertEqual(self.found(("x",), (), (), (7, 1, 1, 1, 1)), (7, (left_alone(0),)))
        self.assertEqual(self.found(("x", "", "z"), (), (), (7, 1, 1, 1, 1)), (21, tuple(map(left_alone, range(3)))))
        self.assertEqual(self.found(("x",) * 24, (), (), NOUGHT), (0, tuple(map(left_alone, range(24)))))

    def test_one_and_one(self):
        # The pair costs 3 for its sizes, less 2 with its hit; both alone cost twice the price of one.
        words = (("dog", "hunden"),)
        alone = (right_alone(0), left_alone(0))
        self.assertEqual(self.found(("dog",), ("hunden",), (), (2, 0, 0, 1, 2)), (3, (both(0, 0),)))
        self.assertEqual(self.found(("dog",), ("hunden",), (), (1, 0, 0, 1, 2)), (2, alone))
        self.assertEqual(self.found(("dog",), ("hunden",), words, (1, 0, 0, 1, 2)), (1, (both(0, 0),)))
        self.assertEqual(self.found(("dog",), ("hunden",), words, (0, 0, 0, 1, 2)), (0, alone))
        self.assertEqual(self.found(("dog",), ("hunden",), words, (0, 0, 0, 1, 4)), (-1, (both(0, 0),)))

    def test_ways_of_the_same_cost(self):
        # Without prices all cost the same: nothing on the left comes ahead of something.
        for m, n in itertools.product(range(5), range(5)):
            first = tuple(map(right_alone, range(n))) + tuple(map(left_alone, range(m)))
            self.assertEqual(self.found(("x",) * m, ("y",) * n, (), NOUGHT), (0, first))
        # Linked or alone.
        self.assertEqual(self.found(("abc",), ("a",), (), (1, 0, 0, 1, 0)), (2, (right_alone(0), left_alone(0))))
        # One of two alike texts is left out: the first.
        self.assertEqual(self.found(("a", "a"), ("b",), (), (1, 9, 9, 1, 0)), (1, (left_alone(0), both(1, 0))))
        self.assertEqual(self.found(("a",), ("b", "b"), (), (1, 9, 9, 1, 0)), (1, (right_alone(0), both(0, 1))))
        # Two links straight or crossed, two with one or one with two.
        self.assertEqual(self.found(("a", "b"), ("c", "d"), (), (9, 9, 0, 1, 0)), (0, (both(0, 0), both(1, 1))))
        self.assertEqual(self.found(("a", "b", "cc"), ("d", "e", "ff"), (), (9, 0, 9, 1, 0)),
                         (0, (both(0, 0), both(1, 1), both(2, 2))))
        self.assertEqual(self.found(("a", "a", "a"), ("b", "b"), (), (9, 5, 9, 0, 0)),
                         (5, (both(0, 0), (((1, 2), (1,)),))))
        self.assertEqual(self.found(("a", "a"), ("b", "b", "b"), (), (9, 5, 9, 0, 0)),
                         (5, (both(0, 0), (((1,), (1, 2)),))))

    def test_alike_at_the_begin_but_dearer_later(self):
        # Alone costs no more here at first, yet all told it does.
        self.assertEqual(self.found(("a", "b"), ("x", "y"), (("a", "x"), ("b", "y")), (1, 9, 9, 0, 3)),
                         (-6, (both(0, 0), both(1, 1))))
        # The dear link at the begin is paid by what it leaves for the end.
        self.assertEqual(self.found(("aaaaaa", "b", "c"), ("x", "y", "z"), (("c", "z"),), (9, 9, 9, 1, 20))[1],
                         (both(0, 0), both(1, 1), both(2, 2)))

    def test_each_kind_of_step_at_each_place(self):
        # The words known lead to the step, and to pairs of one to one around it.
        kinds = ((((), (0,)),), (((0,), ()),), (((0,), (0,)),), (((0,), (0, 1)),), (((0,), (0, 1, 2)),),
                 (((0, 1), (0,)),), (((0, 1, 2), (0,)),), crossed(0, 0))
        costs = (1, 1, -10, -17, -24, -17, -24, -18)
        for step, cost in zip(kinds, costs):
            for ahead, behind in ((0, 0), (0, 2), (1, 1), (2, 0)):
                step_there = tuple((tuple(i + ahead for i in left), tuple(j + ahead for j in right))
                                   for left, right in step)
                m, n = [ahead + len(places_of(step, side)) for side in (0, 1)]
                way = tuple(both(k, k) for k in range(ahead)) + (step_there,)
                way += tuple(both(m + k, n + k) for k in range(behind))
                words = tuple((f"a{i}", f"b{j}") for each in way for left, right in each for i in left for j in right)
                ones = tuple(f"a{i}" for i in range(m + behind))
                others = tuple(f"b{j}" for j in range(n + behind))
                self.assertEqual(self.found(ones, others, words, (1, 3, 2, 0, 10)),
                                 (cost - 10 * (ahead + behind), way))

    def test_no_more_than_three_and_neighbours_alone(self):
        words = tuple((f"a{i}", "b") for i in range(4))
        ones = tuple(f"a{i}" for i in range(4))
        self.assertEqual(self.found(ones, ("b",), words, (5, 0, 0, 0, 10)),
                         (-25, (left_alone(0), (((1, 2, 3), (0,)),))))
        # Two of both sides go into no link; nor do a and c without b.
        words = tuple((one, other) for one in "ab" for other in "xy")
        self.assertEqual(self.found(("a", "b"), ("x", "y"), words, (5, 0, 0, 0, 10))[0], -20)
        self.assertEqual(self.found(("a", "b", "c"), ("x",), (("a", "x"), ("c", "x")), (3, 7, 0, 0, 10)),
                         (-6, ((((0, 1, 2), (0,)),),)))
        # Crossed further than by one there are none.
        words = (("a", "z"), ("b", "y"), ("c", "x"))
        self.assertEqual(self.found(("a", "b", "c"), ("x", "y", "z"), words, (1, 9, 0, 0, 10))[0], -18)

    def test_a_row_of_several(self):
        ones = ("The dog sleeps.", "It rains.", "A cat!", "The end.")
        others = ("Es regnet.", "Der Hund schlaeft.", "Eine Katze!", "Sie geht.", "Ende.")
        words = (("dog", "hund"), ("rains", "regnet"), ("cat", "katze"), ("end", "ende"))
        # Crossed: 2, sizes 13 and 16, 8 and 9; then 5 and 10; one alone; 7 and 5.
        cost = 2 + (3 - 6) + (1 - 6) + (5 - 6) + 8 + (2 - 6)
        self.assertEqual(self.found(ones, others, words, (8, 5, 2, 1, 6)),
                         (cost, (crossed(0, 0), both(2, 2), right_alone(3), both(3, 4))))

    def test_against_all_ways(self):
        seen = collections.Counter()
        for m, n in itertools.product(range(4), range(4)):
            self.hold_against(own_ways(m, n), m, n, range(60), seen)
        for m, n in ((4, 2), (2, 4), (4, 3), (3, 4), (5, 1), (1, 5), (4, 4), (5, 3), (3, 5), (5, 5)):
            self.hold_against(own_ways(m, n), m, n, range(100, 150), seen)
        # So that the rows drawn lead to each kind of step at the begin, within and at the end.
        for kind in ((0, 1), (1, 0), (1, 1), (1, 2), (1, 3), (2, 1), (3, 1), "crossed"):
            for where in ("begin", "within", "end"):
                self.assertGreater(seen[kind, where], 0, (kind, where))
        self.assertGreater(seen["several"], 50)
        self.assertGreater(seen["below nought"], 50)

    def hold_against(self, ways, m, n, seeds, seen):
        for seed in seeds:
            ones, others, words, prices = drawn_case(seed, m, n)
            costs = {step: own_step_cost(ones, others, words, prices, step) for step in own_steps(m, n)}
            all_told = sorted((sum(costs[step] for step in way), way) for way in ways)
            cost, way = self.found(ones, others, words, prices)
            self.assertEqual((cost, way), all_told[0], (ones, others, words, prices))
            seen["several"] += len(all_told) > 1 and all_told[1][0] == cost
            seen["below nought"] += cost < 0
            for k, step in enumerate(way):
                where = "begin" if k == 0 else "end" if k == len(way) - 1 else "within"
                seen[kind_of(step), where] += 1

    def test_greater_counts(self):
        for seed, (m, n) in enumerate(((6, 7), (12, 5), (1, 24), (24, 2), (15, 15), (24, 24), (30, 26))):
            ones, others, words, prices = case = drawn_case(seed, m, n)
            cost, way = self.found(*case)
            self.assertEqual(cost, own_grid(*case)[-1][-1])
            self.assertEqual(own_way_cost(*case, way), cost)
            self.hold_first(case, cost, way)

    def hold_first(self, case, cost, way):
        """No lesser step, at any place of the way, is the begin of a rest that costs no more."""
        rests, steps = own_rests(*case), own_steps(len(case[0]), len(case[1]))
        here = (0, 0)
        for step in way:
            for other in steps:
                begin = [places_of(other, side)[:1] or [here[side]] for side in (0, 1)]
                if other < step and begin == [[here[0]], [here[1]]]:
                    end = tuple(here[side] + len(places_of(other, side)) for side in (0, 1))
                    self.assertGreater(own_step_cost(*case, other) + rests[end], rests[here])
            here = tuple(here[side] + len(places_of(step, side)) for side in (0, 1))
        self.assertEqual((here, rests[0, 0]), ((len(case[0]), len(case[1])), cost))

    def test_a_bearable_time(self):
        draw = random.Random(24)
        known = tuple((f"w{k}", f"v{k}") for k in range(60))
        rows = [tuple(" ".join(draw.choice(known)[side] for turn in range(140))[:400] for text in range(24))
                for side in (0, 1)]
        for prices in ((40, 5, 3, 1, 9), NOUGHT, (10 ** 6,) * 5):
            begin = time.perf_counter()
            told = least_way(rows[0], rows[1], known, prices)
            self.assertLess(time.perf_counter() - begin, 5)
            self.held_grid(rows[0], rows[1], known, prices, told)


class LinkDeedsTest(unittest.TestCase):
    ones = ("z", "b", "m", "aa", "k")
    others = ("y", "c", "x", "ab", "d")

    def test_no_step(self):
        self.assertEqual(link_deeds((), (), (), 5), ())

    def test_alone_steps(self):
        way = (left_alone(0), right_alone(0), left_alone(1))
        self.assertEqual(link_deeds(("a", "b"), ("c",), way, 5), ())

    def test_several_links(self):
        way = (both(0, 0), left_alone(1), (((2, 3, 4), (1,)),), right_alone(2), right_alone(3), right_alone(4))
        self.assertEqual(link_deeds(self.ones, self.others, way, 0),
                         (("link", 0, ("z",), ("y",)), ("link", 0, ("m", "aa", "k"), ("c",))))
        way = ((((0,), (0, 1)),), (((1, 2), (2,)),), (((3,), (3, 4)),), left_alone(4))
        self.assertEqual(link_deeds(self.ones, self.others, way, 10 ** 12),
                         (("link", 10 ** 12, ("z",), ("y", "c")), ("link", 10 ** 12, ("b", "m"), ("x",)),
                          ("link", 10 ** 12, ("aa",), ("ab", "d"))))

    def test_crossed(self):
        way = (crossed(0, 0), right_alone(2), crossed(2, 3), left_alone(4))
        self.assertEqual(link_deeds(self.ones, self.others, way, 3),
                         (("link", 3, ("z",), ("c",)), ("link", 3, ("b",), ("y",)),
                          ("link", 3, ("m",), ("d",)), ("link", 3, ("aa",), ("ab",))))

    def test_a_long_row(self):
        ones = tuple("l" + chr(97 + k) for k in range(24))
        others = tuple("r" + chr(97 + k) for k in range(24))
        way = tuple(both(k, k) for k in range(24))
        self.assertEqual(link_deeds(ones, others, way, 1),
                         tuple(("link", 1, (one,), (other,)) for one, other in zip(ones, others)))

    def test_done_on_a_book(self):
        book = (tuple((name, "x" + name, (1,)) for name in self.ones),
                tuple((name, "y" + name, (2,)) for name in self.others), (), ())
        way = (crossed(0, 0), (((2, 3), (2,)),), right_alone(3), left_alone(4), right_alone(4))
        behind = all_done(book, link_deeds(self.ones, self.others, way, 7))
        self.assertEqual(behind[2], ((("aa", "m"), ("x",), 7, ((), ())), (("b",), ("y",), 7, ((), ())),
                                     (("z",), ("c",), 7, ((), ()))))
        self.assertEqual(lacking(behind), (("k",), ("ab", "d")))

    def test_every_way_can_be_done(self):
        for m, n in itertools.product(range(4), range(5)):
            ones, others = self.ones[:m], self.others[:n]
            book = (tuple((name, "x", (1,)) for name in ones), tuple((name, "y", (2,)) for name in others), (), ())
            for way in own_ways(m, n):
                deeds = link_deeds(ones, others, way, 9)
                links = [link for step in way for link in step if link[0] and link[1]]
                self.assertEqual([(deed[2], deed[3]) for deed in deeds],
                                 [(tuple(ones[i] for i in left), tuple(others[j] for j in right))
                                  for left, right in links])
                self.assertTrue(all(is_deed(deed) for deed in deeds))
                behind = all_done(book, deeds)
                self.assertTrue(is_book(behind))
                self.assertEqual(behind, own_book(book, deeds))
                self.assertEqual(meeting(book, deeds), ())
                alone = [link for step in way for link in step if not (link[0] and link[1])]
                self.assertEqual(in_step(behind), not alone)

    def test_of_a_way_found(self):
        for seed in range(20):
            case = drawn_case(seed, 5, 5)
            way = least_way(*case)[1]
            book = (tuple((name, text, (1,)) for name, text in zip(self.ones, case[0])),
                    tuple((name, text, (1,)) for name, text in zip(self.others, case[1])), (), ())
            deeds = link_deeds(self.ones, self.others, way, 4)
            self.assertTrue(is_plain(deeds))
            behind = all_done(book, deeds)
            self.assertEqual(len(behind[2]), sum(len(step) for step in way if step[0][0] and step[0][1]))


if __name__ == "__main__":
    unittest.main()
