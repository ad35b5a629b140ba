import random
import unittest

from helper import WORDS, drawn_case, drawn_prices, drawn_row_of_texts, is_plain, own_hits, own_size, own_step_cost, \
    own_way_cost, own_ways
from twainkeep.finding import pair_cost
from twainkeep.prices import measured, priced_steps, step_cost, way_cost

KNOWN = (("dog", "hund"), ("cat", "katze"), ("two", "2"), ("dog", "katze"))
ALL = (100, 10, 1000, 3, 7)


class PairCostTest(unittest.TestCase):
    def cost(self, ones, others, out=0, more=0, cross=0, stretch=0, anchor=0):
        return pair_cost(ones, others, KNOWN, (out, more, cross, stretch, anchor))

    def test_counts(self):
        for ones, others, expected in ((1, 1, 0), (1, 2, 10), (1, 3, 20), (2, 1, 10), (3, 1, 20)):
            self.assertEqual(self.cost(("x",) * ones, ("y",) * others, more=10), expected)
            self.assertEqual(self.cost(("",) * ones, ("",) * others, more=10), expected)

    def test_sizes_alike(self):
        for ones, others in ((("abc",), ("x y z",)), (("",), (" \n ",)), (("ab", "c"), ("x.z",)),
                             ((" a b\n",), ("x", "", "y"))):
            self.assertEqual(self.cost(ones, others, stretch=5), 0)

    def test_sizes_unlike(self):
        self.assertEqual(self.cost(("abcd",), ("x",), stretch=5), 15)
        self.assertEqual(self.cost(("x",), ("abcd",), stretch=5), 15)
        self.assertEqual(self.cost(("",), ("a, b!",), stretch=5), 20)
        # The sizes of a side are added ahead of the difference.
        self.assertEqual(self.cost(("ab", "abcdef", "a"), ("abc",), stretch=5), 30)
        self.assertEqual(self.cost(("abcdef",), ("a", "ab"), stretch=5), 15)

    def test_hits(self):
        self.assertEqual(self.cost(("A dog.",), ("Ein Pferd.",), anchor=7), 0)
        self.assertEqual(self.cost(("A DOG.",), ("Ein Hund.",), anchor=7), -7)
        # A core within a longer one is none; neither is one of the other tongue.
        self.assertEqual(self.cost(("dogs",), ("Hund",), anchor=7), 0)
        self.assertEqual(self.cost(("hund katze",), ("dog cat",), anchor=7), 0)
        self.assertEqual(self.cost(("two dogs, a cat",), ("Katze, 2",), anchor=7), -14)
        self.assertEqual(self.cost(("cat dog two",), ("2 Hund Katze",), anchor=7), -28)

    def test_hits_over_several_texts(self):
        self.assertEqual(self.cost(("dog",), ("Hund", "Katze", "x"), anchor=7), -14)
        self.assertEqual(self.cost(("x", "dog", "cat"), ("Katze",), anchor=7), -14)
        # A pair of words counts once, in however many texts it stands.
        self.assertEqual(self.cost(("dog dog",), ("Hund", "Hund Hund", "hund"), anchor=7), -7)
        self.assertEqual(self.cost(("dog", "dog", "Dog"), ("hund",), anchor=7), -7)

    def test_no_words_known(self):
        self.assertEqual(pair_cost(("dog",), ("Hund",), (), ALL), 3)

    def test_all_at_once(self):
        # Two to one: more once; 7 signs and 4 against 9; two hits.
        self.assertEqual(pair_cost(("One dog.", "Cat."), ("Hund,Katze",), KNOWN, ALL), 10 + 3 * 1 - 7 * 3)
        self.assertEqual(pair_cost(("dog",), ("Hund", "u", "v"), KNOWN, ALL), 20 + 3 * 3 - 7)

    def test_out_and_cross_are_not_in_it(self):
        for ones, others in ((("a",), ("bc",)), (("a", "b"), ("cde",)), (("dog",), ("x", "y", "hund"))):
            costs = {pair_cost(ones, others, KNOWN, (out, 4, cross, 5, 6)) for out in (0, 1, 9) for cross in (0, 1, 9)}
            self.assertEqual(len(costs), 1)

    def test_nought(self):
        self.assertEqual(pair_cost(("a dog", "b", ""), ("Hund",), KNOWN, (0, 0, 0, 0, 0)), 0)
        self.assertEqual(pair_cost(("a dog", "b", ""), ("Hund",), KNOWN, (10 ** 6, 0, 10 ** 6, 0, 0)), 0)

    def test_great_prices_and_texts(self):
        great = (10 ** 6,) * 5
        self.assertEqual(pair_cost(("~" * 400,) * 3, (" " * 400,), (), great), 10 ** 6 * 1202)
        words = tuple((f"w{k}", "v") for k in range(60))
        text = " ".join(one for one, other in words)
        self.assertEqual(pair_cost((text,), ("v" + "!" * (len(text) - 60),), words, great), -60 * 10 ** 6)

    def test_below_nought(self):
        self.assertEqual(self.cost(("cat",), ("katze",), stretch=1, anchor=3), -1)
        self.assertEqual(self.cost(("cat",), ("katze",), stretch=1, anchor=2), 0)

    def test_as_the_own_count_says(self):
        draw = random.Random(18)
        for turn in range(600):
            counts = draw.choice(((1, 1), (1, 2), (1, 3), (2, 1), (3, 1)))
            ones, others = [drawn_row_of_texts(draw, side, counts[side]) for side in (0, 1)]
            prices = drawn_prices(draw)
            expected = (prices[1] * (max(counts) - 1) + prices[3] * abs(own_size(ones) - own_size(others))
                        - prices[4] * own_hits(ones, others, WORDS))
            told = pair_cost(ones, others, WORDS, prices)
            self.assertEqual(told, expected, (ones, others, prices))
            self.assertTrue(is_plain(told))
            self.assertEqual(pair_cost(ones, others, WORDS, prices), told)


class StepCostTest(unittest.TestCase):
    ones = ("dog", "a", "cat", "abcde", "two")
    others = ("Katze", "Hund", "x", "2", "yy")

    def cost(self, step, prices=ALL):
        left, right = measured(self.ones, KNOWN, 0), measured(self.others, KNOWN, 1)
        return step_cost(step, left, right, prices)

    def test_alone(self):
        for k in range(5):
            self.assertEqual(self.cost((((k,), ()),)), 100)
            self.assertEqual(self.cost((((), (k,)),)), 100)
            self.assertEqual(self.cost((((k,), ()),), (0, 1, 2, 3, 4)), 0)

    def test_neighbours_at_the_begin(self):
        self.assertEqual(self.cost((((0,), (0,)),)), 3 * 2 - 7)
        self.assertEqual(self.cost((((0,), (0, 1)),)), 10 + 3 * 6 - 14)
        self.assertEqual(self.cost((((0,), (0, 1, 2)),)), 20 + 3 * 7 - 14)
        self.assertEqual(self.cost((((0, 1), (0,)),)), 10 + 3 * 1 - 7)
        self.assertEqual(self.cost((((0, 1, 2), (0,)),)), 20 + 3 * 2 - 14)

    def test_neighbours_within(self):
        self.assertEqual(self.cost((((1,), (2,)),)), 0)
        self.assertEqual(self.cost((((2,), (0, 1)),)), 10 + 3 * 6 - 7)
        self.assertEqual(self.cost((((1,), (1, 2, 3)),)), 20 + 3 * 5)
        self.assertEqual(self.cost((((1, 2), (2,)),)), 10 + 3 * 3)
        self.assertEqual(self.cost((((1, 2, 3), (1,)),)), 20 + 3 * 5)

    def test_neighbours_at_the_end(self):
        self.assertEqual(self.cost((((4,), (4,)),)), 3)
        self.assertEqual(self.cost((((4,), (3, 4)),)), 10 - 7)
        self.assertEqual(self.cost((((4,), (2, 3, 4)),)), 20 + 3 * 1 - 7)
        self.assertEqual(self.cost((((3, 4), (4,)),)), 10 + 3 * 6)
        self.assertEqual(self.cost((((2, 3, 4), (4,)),)), 20 + 3 * 9)

    def test_crossed(self):
        # At the begin, within, at the end: cross, and two pairs of one to one.
        self.assertEqual(self.cost((((0,), (1,)), ((1,), (0,)))), 1000 + (3 * 1 - 7) + 3 * 4)
        self.assertEqual(self.cost((((1,), (1,)), ((2,), (0,)))), 1000 + 3 * 3 + (3 * 2 - 7))
        self.assertEqual(self.cost((((3,), (4,)), ((4,), (3,)))), 1000 + 3 * 3 + (3 * 2 - 7))
        self.assertEqual(self.cost((((0,), (1,)), ((1,), (0,))), (9, 9, 0, 0, 7)), -7)

    def test_steps_with_their_ends(self):
        left, right = measured(self.ones, KNOWN, 0), measured(self.others, KNOWN, 1)
        told = priced_steps(1, 2, left, right, ALL)
        self.assertEqual([step for step, cost, end in told],
                         [(((), (2,)),), (((1,), ()),), (((1,), (2,)),), (((1,), (2, 3)),), (((1,), (2, 3, 4)),),
                          (((1,), (3,)), ((2,), (2,))), (((1, 2), (2,)),), (((1, 2, 3), (2,)),)])
        self.assertEqual([end for step, cost, end in told],
                         [(1, 3), (2, 2), (2, 3), (2, 4), (2, 5), (3, 4), (3, 3), (4, 3)])
        for step, cost, end in told:
            self.assertEqual(cost, own_step_cost(self.ones, self.others, KNOWN, ALL, step))
        self.assertEqual(priced_steps(5, 5, left, right, ALL), [])
        self.assertEqual(priced_steps(4, 5, left, right, ALL), [((((4,), ()),), 100, (5, 5))])

    def test_ways(self):
        left, right = measured(self.ones, KNOWN, 0), measured(self.others, KNOWN, 1)
        self.assertEqual(way_cost((), [], [], ALL), 0)
        way = ((((0,), (1,)), ((1,), (0,))), (((), (2,)),), (((2, 3, 4), (3,)),), (((), (4,)),))
        self.assertEqual(way_cost(way, left, right, ALL), 1008 + 100 + (20 + 3 * 10 - 7) + 100)

    def test_ways_as_the_own_count_says(self):
        for seed in range(30):
            m, n = seed % 4, seed * 3 % 5
            ones, others, words, prices = drawn_case(seed, m, n)
            left, right = measured(ones, words, 0), measured(others, words, 1)
            for way in own_ways(m, n):
                self.assertEqual(way_cost(way, left, right, prices), own_way_cost(ones, others, words, prices, way))


if __name__ == "__main__":
    unittest.main()
