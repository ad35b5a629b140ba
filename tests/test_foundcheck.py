import itertools
import random
import time
import unittest

from helper import at, deep_tuple, drawn_case, own_grid, own_is_paper, own_step_cost, own_steps, own_ways, places_in, \
    put_at, strange_things
from twainkeep.finding import least_way
from twainkeep.foundcheck import shows_found

# The way found: one to one, crossed, two to one, one to two, one alone on each side.
ONES = ("one", "two", "three", "four", "five", "six", "abcdefgh")
OTHERS = ("eins", "drei", "zwei", "fuenf", "sechs", "6", "x")
WORDS = (("one", "eins"), ("two", "zwei"), ("three", "drei"), ("four", "fuenf"), ("five", "fuenf"), ("six", "sechs"),
         ("six", "6"))
PRICES = (3, 2, 1, 1, 20)
CASE = (ONES, OTHERS, WORDS, PRICES)
WAY = ((((0,), (0,)),), (((1,), (2,)), ((2,), (1,))), (((3, 4), (3,)),), (((5,), (4, 5)),), (((), (6,)),),
       (((6,), ()),))
# Sizes: 3, 4; 3, 4 and 5, 4; 8, 5; 3, 6.
COST = (1 - 20) + (1 + 1 - 20 + 1 - 20) + (2 + 3 - 40) + (2 + 3 - 40) + 3 + 3


def with_number(grid, i, j, number):
    return put_at(grid, (i, j), number)


def all_places(grid):
    return itertools.product(range(len(grid)), range(len(grid[0])))


class TrueTest(unittest.TestCase):
    def test_of_what_least_way_tells(self):
        for m, n in itertools.product(range(6), range(6)):
            for seed in range(5):
                case = drawn_case(seed, m, n)
                self.assertIs(shows_found(*case, least_way(*case)), True, case)

    def test_of_a_way_found_by_hand(self):
        self.assertEqual(least_way(*CASE)[:2], (COST, WAY))
        self.assertIs(shows_found(*CASE, (COST, WAY, own_grid(*CASE))), True)

    def test_none_and_none(self):
        self.assertIs(shows_found((), (), (), PRICES, (0, (), ((0,),))), True)
        for told in ((1, (), ((0,),)), (0, (), ((1,),)), (1, (), ((1,),)), (0, ((),), ((0,),)), (0, (), ()),
                     (0, (), ((),)), (0, (), ((0, 0),)), (0, (), ((0,), (0,))), (0, ((((0,), ()),),), ((0,),))):
            self.assertIs(shows_found((), (), (), PRICES, told), False, told)

    def test_one_side_alone(self):
        way = ((((), (0,)),), (((), (1,)),))
        self.assertIs(shows_found((), ("x", "y"), (), PRICES, (6, way, ((0, 3, 6),))), True)
        for grid in (((0, 2, 6),), ((0, 4, 6),), ((0, 3, 5),), ((1, 3, 6),), ((0, 3, 6),) * 2, ((0,), (3,), (6,))):
            self.assertIs(shows_found((), ("x", "y"), (), PRICES, (6, way, grid)), False)
        way = ((((0,), ()),), (((1,), ()),))
        self.assertIs(shows_found(("x", "y"), (), (), PRICES, (6, way, ((0,), (3,), (6,)))), True)
        self.assertIs(shows_found(("x", "y"), (), (), PRICES, (6, way, ((0, 3, 6),))), False)

    def test_all_ways(self):
        """True of just those ways that cost least, whatever their order among these."""
        several = 0
        for (m, n), seed in itertools.product(((1, 1), (2, 2), (1, 3), (3, 2), (3, 3)), range(12)):
            case = drawn_case(seed, m, n)
            grid = own_grid(*case)
            costs = {step: own_step_cost(*case, step) for step in own_steps(m, n)}
            shown = []
            for way in own_ways(m, n):
                cost = sum(costs[step] for step in way)
                if shows_found(*case, (cost, way, grid)):
                    shown.append(way)
                self.assertIs(shows_found(*case, (cost, way, grid)), cost == grid[-1][-1], case)
                self.assertIs(shows_found(*case, (grid[-1][-1], way, grid)), cost == grid[-1][-1], case)
            several += len(shown) > 1
            self.assertEqual(min(shown), least_way(*case)[1])
        self.assertGreater(several, 20)

    def test_other_grids(self):
        told = least_way(*CASE)
        most = own_grid(*CASE)
        self.assertIs(shows_found(*CASE, (COST, WAY, most)), True)
        self.assertNotEqual(told[2], most)
        # What lies between two papers, number by number, is one too, were it rounded down.
        between = tuple(tuple((one + other) // 2 for one, other in zip(*rows)) for rows in zip(told[2], most))
        self.assertIs(shows_found(*CASE, (COST, WAY, between)), True)
        self.assertIs(own_is_paper(*CASE, COST, between), True)

    def test_numbers_changed_here_and_there(self):
        draw = random.Random(20)
        counts = {True: 0, False: 0}
        for seed in range(60):
            case = drawn_case(seed, 3, 3)
            cost, way, grid = least_way(*case)
            for start in (grid, own_grid(*case)):
                for turn in range(15):
                    other = start
                    for change in range(draw.randint(1, 3)):
                        i, j = draw.randrange(4), draw.randrange(4)
                        other = with_number(other, i, j, other[i][j] + draw.choice((-9, -1, 0, 1, 9)))
                    expected = own_is_paper(*case, cost, other)
                    counts[expected] += 1
                    self.assertIs(shows_found(*case, (cost, way, other)), expected, (case, other))
        self.assertGreater(min(counts.values()), 100)

    def test_a_bearable_time(self):
        ones = tuple(("word%d " % k * 60)[:400] for k in range(24))
        others = tuple(("wort%d " % (23 - k) * 57)[:400] for k in range(24))
        words = tuple(("word%d" % (k % 24), "wort%d" % (k * 7 % 24)) for k in range(60))
        told = least_way(ones, others, words, PRICES)
        begin = time.perf_counter()
        self.assertIs(shows_found(ones, others, words, PRICES, told), True)
        self.assertLess(time.perf_counter() - begin, 5)


class FalseTest(unittest.TestCase):
    def setUp(self):
        self.grid = own_grid(*CASE)
        self.assertIs(shows_found(*CASE, (COST, WAY, self.grid)), True)

    def refuse(self, cost, way, grid):
        self.assertIs(shows_found(*CASE, (cost, way, grid)), False, (cost, way, grid))

    def test_another_cost(self):
        for cost in (COST - 1, COST + 1, 0, -COST, 10 ** 30):
            self.refuse(cost, WAY, self.grid)
            self.refuse(cost, WAY, with_number(self.grid, 7, 7, cost))

    def test_texts_left_out_or_twice(self):
        for k, step in enumerate(WAY):
            self.refuse(COST, WAY[:k] + WAY[k + 1:], self.grid)
            self.refuse(COST, WAY[:k] + (step,) + WAY[k:], self.grid)
            # So that the cost is that of the way told.
            cost = COST - own_step_cost(*CASE, step)
            self.refuse(cost, WAY[:k] + WAY[k + 1:], with_number(self.grid, 7, 7, cost))
        self.refuse(0, (), with_number(self.grid, 7, 7, 0))

    def test_another_order(self):
        for k, other in itertools.combinations(range(len(WAY)), 2):
            way = list(WAY)
            way[k], way[other] = way[other], way[k]
            # The two alone, one of each side, may stand in either order; no others may.
            self.assertIs(shows_found(*CASE, (COST, tuple(way), self.grid)), (k, other) == (4, 5))
        self.refuse(COST, WAY[::-1], self.grid)
        self.refuse(COST, put_at(WAY, (1,), WAY[1][::-1]), self.grid)
        self.refuse(COST, put_at(WAY, (2, 0, 0), (4, 3)), self.grid)
        self.refuse(COST, put_at(WAY, (3, 0, 1), (5, 4)), self.grid)

    def test_another_cost_of_the_way(self):
        way = ((((0,), ()),), (((), (0,)),)) + WAY[1:]
        cost = COST - (1 - 20) + 6
        self.refuse(COST, way, self.grid)
        self.refuse(cost, way, self.grid)
        self.refuse(cost, way, with_number(self.grid, 7, 7, cost))
        way = WAY[:2] + ((((3,), ()),), (((4,), (3,)),)) + WAY[3:]
        self.refuse(COST, way, self.grid)

    def test_of_other_texts_words_and_prices(self):
        told = (COST, WAY, self.grid)
        for case in ((ONES[1:], OTHERS, WORDS, PRICES), (ONES, OTHERS + ("y",), WORDS, PRICES),
                     ((), (), WORDS, PRICES), (ONES, OTHERS, WORDS[1:], PRICES), (ONES, OTHERS, (), PRICES),
                     (("ones",) + ONES[1:], OTHERS, WORDS, PRICES), (ONES, OTHERS, WORDS, (4, 2, 1, 1, 20)),
                     (ONES, OTHERS, WORDS, (3, 3, 1, 1, 20)), (ONES, OTHERS, WORDS, (3, 2, 0, 1, 20)),
                     (ONES, OTHERS, WORDS, (3, 2, 1, 2, 20)), (ONES, OTHERS, WORDS, (3, 2, 1, 1, 21))):
            self.assertIs(shows_found(*case, told), False, case)

    def test_a_number_too_great(self):
        # The grid of the least costs from the begin has no number that could be greater.
        for i, j in all_places(self.grid):
            for more in (1, 10 ** 40):
                self.refuse(COST, WAY, with_number(self.grid, i, j, self.grid[i][j] + more))

    def test_a_number_too_small(self):
        # The grid of the cost less the rests has none that could be smaller.
        backward = tuple(tuple(reversed([COST - number for number in row])) for row in reversed(self.backward_grid()))
        self.assertIs(shows_found(*CASE, (COST, WAY, backward)), True)
        for i, j in all_places(backward):
            for less in (1, 10 ** 40):
                self.refuse(COST, WAY, with_number(backward, i, j, backward[i][j] - less))

    def backward_grid(self):
        """The least costs from the end, counted as through both rows turned round: what a step costs stays."""
        return own_grid(ONES[::-1], OTHERS[::-1], WORDS, PRICES)

    def test_all_greater_by_one(self):
        self.refuse(COST, WAY, tuple(tuple(number + 1 for number in row) for row in self.grid))
        self.refuse(COST, WAY, ((0,) * 8,) * 8)

    def test_too_few_or_too_many(self):
        grid = self.grid
        for other in (grid[:-1], grid[1:], grid + (grid[-1],), (grid[0],) + grid, (), (grid,), grid[0],
                      tuple(row[:-1] for row in grid), tuple(row[1:] for row in grid),
                      tuple(row + (row[-1],) for row in grid), tuple(row + (0,) for row in grid), ((),) * 8):
            self.refuse(COST, WAY, other)
        for k in range(8):
            self.refuse(COST, WAY, grid[:k] + grid[k + 1:])
            self.refuse(COST, WAY, put_at(grid, (k,), grid[k][:-1]))
            self.refuse(COST, WAY, put_at(grid, (k,), grid[k] + (COST,)))
            self.refuse(COST, WAY, put_at(grid, (k,), ()))

    def test_turned_grids(self):
        case = drawn_case(3, 2, 4)
        cost, way, grid = least_way(*case)
        self.assertIs(shows_found(*case, (cost, way, grid)), True)
        self.assertIs(shows_found(*case, (cost, way, tuple(zip(*grid)))), False)


class AnythingTest(unittest.TestCase):
    case = (("a", "b", "c"), ("x", "y"), (("a", "y"), ("b", "x")), (1, 1, 1, 1, 2))

    def setUp(self):
        self.told = least_way(*self.case)
        self.assertEqual(self.told[:2], (-2, ((((0,), (1,)), ((1,), (0,))), (((2,), ()),))))

    def shows(self, told):
        return shows_found(*self.case, told)

    def test_strange_things(self):
        for thing in strange_things() + (deep_tuple(),):
            self.assertIs(self.shows(thing), False)
            self.assertIs(shows_found((), (), (), PRICES, thing), False)

    def test_of_other_lengths(self):
        cost, way, grid = self.told
        for told in ((), (cost,), (cost, way), (cost, grid, way), (way, cost, grid), (cost, way, grid, None),
                     (cost, way, grid, grid), (cost, way, None), (cost, None, grid), (None, way, grid),
                     (self.told,), (cost, (way,), grid), (cost, way, (grid,))):
            self.assertIs(self.shows(told), False, told)

    def test_strange_things_within(self):
        for path in places_in(self.told):
            own = at(self.told, path)
            for thing in strange_things():
                whole = isinstance(thing, int) and not isinstance(thing, bool)
                if (whole or isinstance(thing, tuple)) and thing == own:
                    continue
                told = put_at(self.told, path, thing)
                # Another whole number in the grid may make another paper.
                paper = whole and path[0:1] == (2,) and len(path) == 3 and own_is_paper(*self.case, -2, told[2])
                self.assertIs(self.shows(told), paper, path)

    def test_deeply_laid_tuples_within(self):
        deep = deep_tuple()
        for path in places_in(self.told):
            for thing in (deep, (deep,) * 2, (deep,) * 3, (deep,) * 4):
                self.assertIs(self.shows(put_at(self.told, path, thing)), False, path)

    def test_lists_and_longer_ones(self):
        for path in places_in(self.told):
            own = at(self.told, path)
            if isinstance(own, tuple):
                self.assertIs(self.shows(put_at(self.told, path, list(own))), False, path)
                self.assertIs(self.shows(put_at(self.told, path, own + (0,))), False, path)
                self.assertIs(self.shows(put_at(self.told, path, own + ((),))), False, path)
                if own:
                    self.assertIs(self.shows(put_at(self.told, path, own[:-1])), False, path)

    def test_truths_and_broken_numbers_in_place_of_numbers(self):
        # All numbers are 0 or 1 in turn somewhere here, so that a truth is like each of them to Python.
        ones, others, prices = ("a",), ("x",), (1, 1, 1, 1, 0)
        for cost, way, grid in ((0, ((((0,), (0,)),),), ((0, 1), (1, 0))), (0, ((((0,), (0,)),),), ((0, 0), (0, 0)))):
            told = (cost, way, grid)
            self.assertIs(shows_found(ones, others, (), prices, told), True)
            for path in places_in(told):
                own = at(told, path)
                if isinstance(own, int):
                    for other in (bool(own), float(own), complex(own), str(own)):
                        self.assertIs(shows_found(ones, others, (), prices, put_at(told, path, other)), False, path)
        self.assertIs(shows_found(("a",), (), (), prices, (1, ((((0,), ()),),), ((0,), (1,)))), True)
        self.assertIs(shows_found(("a",), (), (), prices, (True, ((((0,), ()),),), ((0,), (1,)))), False)
        self.assertIs(shows_found(("a",), (), (), prices, (1, ((((0,), ()),),), ((0,), (True,)))), False)

    def test_long_ones(self):
        cost, way, grid = self.told
        self.assertIs(self.shows((cost, way * 20000, grid)), False)
        self.assertIs(self.shows((cost, way, grid * 20000)), False)
        self.assertIs(self.shows((cost, way, (grid[0] * 20000,) + grid[1:])), False)


if __name__ == "__main__":
    unittest.main()
