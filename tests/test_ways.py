import itertools
import unittest

from helper import at, own_steps, own_ways, places_in, places_of, put_at, strange_things
from twainkeep.ways import is_way, passed, steps_from

LEFT = (((0,), ()),)
RIGHT = (((), (0,)),)
BOTH = (((0,), (0,)),)
CROSSED = (((0,), (1,)), ((1,), (0,)))


def walked_ways(i, j, m, n):
    """All ways from i left texts and j right ones on, by the program's steps."""
    if (i, j) == (m, n):
        yield ()
    for step in steps_from(i, j, m, n):
        left, right = passed(step)
        for way in walked_ways(i + left, j + right, m, n):
            yield (step,) + way


class StepsTest(unittest.TestCase):
    def test_where_no_text_is_left(self):
        self.assertEqual(steps_from(0, 0, 0, 0), ())
        self.assertEqual(steps_from(3, 2, 3, 2), ())

    def test_where_one_side_is_left(self):
        for count in range(1, 5):
            self.assertEqual(steps_from(0, 0, count, 0), (LEFT,))
            self.assertEqual(steps_from(0, 0, 0, count), (RIGHT,))
        self.assertEqual(steps_from(1, 2, 3, 2), ((((1,), ()),),))
        self.assertEqual(steps_from(3, 1, 3, 5), ((((), (1,)),),))

    def test_one_of_each(self):
        self.assertEqual(steps_from(0, 0, 1, 1), (RIGHT, LEFT, BOTH))

    def test_several_of_one_side(self):
        self.assertEqual(steps_from(0, 0, 1, 2), (RIGHT, LEFT, BOTH, (((0,), (0, 1)),)))
        self.assertEqual(steps_from(0, 0, 2, 1), (RIGHT, LEFT, BOTH, (((0, 1), (0,)),)))
        self.assertEqual(steps_from(0, 0, 1, 3), (RIGHT, LEFT, BOTH, (((0,), (0, 1)),), (((0,), (0, 1, 2)),)))
        self.assertEqual(steps_from(0, 0, 3, 1), (RIGHT, LEFT, BOTH, (((0, 1), (0,)),), (((0, 1, 2), (0,)),)))
        # Four of one side stand in no step.
        self.assertEqual(steps_from(0, 0, 1, 4), steps_from(0, 0, 1, 3))
        self.assertEqual(steps_from(0, 0, 4, 1), steps_from(0, 0, 3, 1))

    def test_crossed(self):
        # Two of both sides in one link there are not.
        self.assertEqual(steps_from(0, 0, 2, 2),
                         (RIGHT, LEFT, BOTH, (((0,), (0, 1)),), CROSSED, (((0, 1), (0,)),)))

    def test_all_kinds_and_their_places(self):
        expected = ((((), (7,)),), (((4,), ()),), (((4,), (7,)),), (((4,), (7, 8)),), (((4,), (7, 8, 9)),),
                    (((4,), (8,)), ((5,), (7,))), (((4, 5), (7,)),), (((4, 5, 6), (7,)),))
        for m, n in ((7, 10), (24, 24), (60, 10)):
            self.assertEqual(steps_from(4, 7, m, n), expected)
            self.assertEqual(steps_from(4, 7, m, n), expected)

    def test_as_the_own_count_says(self):
        for m, n in itertools.product(range(5), range(5)):
            steps = own_steps(m, n)
            for i, j in itertools.product(range(m + 1), range(n + 1)):
                own = [step for step in steps
                       if places_of(step, 0)[:1] in ([], [i]) and places_of(step, 1)[:1] in ([], [j])]
                self.assertEqual(steps_from(i, j, m, n), tuple(sorted(own)), (i, j, m, n))

    def test_passed(self):
        counts = [passed(step) for step in steps_from(4, 7, 9, 12)]
        self.assertEqual(counts, [(0, 1), (1, 0), (1, 1), (1, 2), (1, 3), (2, 2), (2, 1), (3, 1)])


class WaysTest(unittest.TestCase):
    def test_through_none(self):
        self.assertIs(is_way((), 0, 0), True)
        for m, n in ((0, 1), (1, 0), (1, 1), (24, 24)):
            self.assertIs(is_way((), m, n), False)
        for step in (LEFT, RIGHT, BOTH, CROSSED, ()):
            self.assertIs(is_way((step,), 0, 0), False)

    def test_through_one(self):
        self.assertIs(is_way((LEFT,), 1, 0), True)
        self.assertIs(is_way((RIGHT,), 0, 1), True)
        self.assertIs(is_way((LEFT,), 0, 1), False)
        for way in ((LEFT, RIGHT), (RIGHT, LEFT), (BOTH,)):
            self.assertIs(is_way(way, 1, 1), True)
        for way in ((), (LEFT,), (RIGHT,), (LEFT, LEFT), (LEFT, RIGHT, BOTH), (BOTH, LEFT), (CROSSED,), (LEFT, ())):
            self.assertIs(is_way(way, 1, 1), False)

    def test_alone_ones(self):
        way = ((((0,), ()),), (((), (0,)),), (((1,), ()),), (((2,), ()),), (((), (1,)),))
        self.assertIs(is_way(way, 3, 2), True)
        # In another order a side's texts don't come in order.
        self.assertIs(is_way((way[2], way[1], way[0]) + way[3:], 3, 2), False)
        # Two alone in one step are none.
        self.assertIs(is_way(((((0, 1), ()),),), 2, 0), False)
        self.assertIs(is_way(((((), (0, 1)),),), 0, 2), False)
        self.assertIs(is_way(((((0,), ()), ((), (0,))),), 1, 1), False)
        self.assertIs(is_way(((((), ()),),), 0, 0), False)

    def test_one_to_three_of_each_side(self):
        for m, n in itertools.product(range(1, 5), range(1, 5)):
            way = (((tuple(range(m)), tuple(range(n))),),)
            self.assertIs(is_way(way, m, n), 1 in (m, n) and max(m, n) <= 3, way)

    def test_neighbours_alone(self):
        self.assertIs(is_way(((((0, 2), (0,)),), (((1,), ()),)), 3, 1), False)
        self.assertIs(is_way(((((1, 0), (0,)),),), 2, 1), False)
        self.assertIs(is_way(((((0, 0), (0,)),),), 2, 1), False)

    def test_crossed_ones(self):
        self.assertIs(is_way((CROSSED,), 2, 2), True)
        self.assertIs(is_way(((CROSSED[1], CROSSED[0]),), 2, 2), False)
        self.assertIs(is_way(((CROSSED[0],), (CROSSED[1],)), 2, 2), False)
        self.assertIs(is_way(((((0,), (0,)), ((1,), (1,))),), 2, 2), False)
        self.assertIs(is_way((CROSSED + CROSSED,), 2, 2), False)
        self.assertIs(is_way((CROSSED, (((2,), (3,)), ((3,), (2,)))), 4, 4), True)
        self.assertIs(is_way((BOTH, (((1,), (2,)), ((2,), (1,))), (((3,), ()),)), 4, 3), True)
        # Three crossed, or one of which a link has two texts.
        self.assertIs(is_way(((((0,), (2,)), ((1,), (1,)), ((2,), (0,))),), 3, 3), False)
        self.assertIs(is_way(((((0, 1), (1,)), ((2,), (0,))),), 3, 2), False)

    def test_no_text_twice_and_none_left_out(self):
        way = (BOTH, (((1, 2), (1,)),), (((), (2,)),), (((3,), (4,)), ((4,), (3,))), (((5,), ()),))
        self.assertIs(is_way(way, 6, 5), True)
        for k, step in enumerate(way):
            self.assertIs(is_way(way[:k] + way[k + 1:], 6, 5), False)
            self.assertIs(is_way(way[:k] + (step,) + way[k:], 6, 5), False)
        for m, n in ((5, 5), (7, 5), (6, 4), (6, 6), (5, 6), (0, 0)):
            self.assertIs(is_way(way, m, n), False)

    def test_a_long_one(self):
        way = tuple((((k,), (k,)),) for k in range(60))
        self.assertIs(is_way(way, 60, 60), True)
        self.assertIs(is_way(way[:-1] + ((((59,), (60,)),),), 60, 60), False)

    def test_all_ways_there_are(self):
        counts = {}
        for m, n in itertools.product(range(4), range(5)):
            own = own_ways(m, n)
            counts[m, n] = len(own)
            self.assertEqual(sorted(walked_ways(0, 0, m, n)), sorted(own), (m, n))
            for way in own:
                self.assertIs(is_way(way, m, n), True, way)
                self.assertIs(is_way(way, m + 1, n), False, way)
                self.assertIs(is_way(way, m, n + 1), False, way)
        # Counted by hand: (1, 1) alone in two orders, and linked; (1, 2) alone in three, and three with a link.
        self.assertEqual((counts[0, 0], counts[3, 0], counts[1, 1], counts[1, 2]), (1, 1, 3, 6))

    def test_every_row_of_steps(self):
        for m, n in ((1, 2), (2, 1), (2, 2)):
            ways, steps = own_ways(m, n), own_steps(m, n)
            for count in range(m + n + 1):
                for row in itertools.product(steps, repeat=count):
                    self.assertIs(is_way(row, m, n), row in ways, row)


class AnythingTest(unittest.TestCase):
    way = (BOTH, (((1,), (2,)), ((2,), (1,))), (((3,), ()),))

    def test_strange_things(self):
        for thing in strange_things():
            self.assertIs(is_way(thing, 4, 3), False)
            self.assertIs(is_way(thing, 0, 0), isinstance(thing, tuple) and len(thing) == 0)

    def test_strange_things_within(self):
        self.assertIs(is_way(self.way, 4, 3), True)
        for path in places_in(self.way):
            own = at(self.way, path)
            for thing in strange_things():
                if isinstance(thing, (int, tuple)) and not isinstance(thing, bool) and thing == own:
                    continue
                self.assertIs(is_way(put_at(self.way, path, thing), 4, 3), False, path)

    def test_lists_and_truths(self):
        for path in places_in(self.way):
            own = at(self.way, path)
            if isinstance(own, tuple):
                self.assertIs(is_way(put_at(self.way, path, list(own)), 4, 3), False, path)
                self.assertIs(is_way(put_at(self.way, path, own + (0,)), 4, 3), False, path)
            else:
                self.assertIs(is_way(put_at(self.way, path, float(own)), 4, 3), False, path)
                if own < 2:
                    self.assertIs(is_way(put_at(self.way, path, bool(own)), 4, 3), False, path)


if __name__ == "__main__":
    unittest.main()
