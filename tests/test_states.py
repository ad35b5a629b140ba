import itertools
import unittest

from helper import BOOK, CROSSED
from twainkeep.books import EMPTY
from twainkeep.deeds import all_done, begun, done
from twainkeep.errors import NoPart
from twainkeep.states import in_step, lacking, stale, state_of, states

LAST = 10 ** 12


def linked(left, right, told, lost=((), ())):
    """A book of one link of all: left a, b .., right p, q .., of these moments."""
    one = tuple(("abc"[k], "x", moments) for k, moments in enumerate(left))
    other = tuple(("pqr"[k], "y", moments) for k, moments in enumerate(right))
    link = (tuple(part[0] for part in one), tuple(part[0] for part in other), told, lost)
    return (one, other, (link,), ())


class StaleSinceTest(unittest.TestCase):
    def check(self, left, right, *given):
        book = linked(*given)
        for side, since in ((0, left), (1, right)):
            state = ("step",) if since is None else ("stale", since)
            for part in book[side]:
                self.assertEqual(state_of(book, part[0]), state, (given, part))

    def test_by_a_changed_part(self):
        self.check(None, 5, ((1, 5),), ((1,),), 3)
        self.check(5, None, ((1,),), ((1, 5),), 3)
        self.check(6, 5, ((1, 5),), ((1, 6),), 3)

    def test_at_a_moment_equal_to_that_told_below_and_above_it(self):
        self.check(None, None, ((3,),), ((3,),), 3)
        self.check(None, None, ((2,),), ((2,),), 3)
        self.check(4, None, ((3,),), ((4,),), 3)
        self.check(None, 4, ((4,),), ((3,),), 3)
        self.check(1, 1, ((0, 1),), ((0, 1),), 0)
        self.check(None, None, ((0, LAST),), ((0, LAST),), LAST)
        self.check(LAST, LAST, ((0, LAST),), ((0, LAST),), LAST - 1)

    def test_by_a_lost_one(self):
        self.check(7, None, ((1,),), ((1,),), 3, ((), (7,)))
        self.check(None, 7, ((1,),), ((1,),), 3, ((7,), ()))
        self.check(None, None, ((1,),), ((1,),), 3, ((3,), (0, 2)))
        self.check(4, None, ((1,),), ((1,),), 3, ((1, 3), (2, 3, 4, 5)))

    def test_the_least_of_several(self):
        self.check(4, 6, ((1, 9), (6,)), ((1,), (2, 4, 5)), 3)
        self.check(5, 4, ((9,), (8,)), ((7,), (1, 5)), 3, ((2, 4), (6,)))
        self.check(6, 4, ((1, 4, 9), (8,)), ((7,), (1, 8)), 3, ((5,), (6,)))

    def test_its_own_moments_do_not_count(self):
        self.check(None, 5, ((5,), (6,)), ((1,),), 3, ((8,), ()))

    def test_links_do_not_mix(self):
        book = ((("a", "", (9,)), ("b", "", (1,))), (("p", "", (1,)), ("q", "", (1,))),
                ((("a",), ("p",), 3, ((), ())), (("b",), ("q",), 3, ((), (5,)))), ())
        self.assertEqual(states(book), ((("a", ("step",)), ("b", ("stale", 5))),
                                        (("p", ("stale", 9)), ("q", ("step",)))))

    def test_moments_of_parts_out_of_the_link_do_not_count(self):
        book = ((("a", "", (1,)), ("c", "", (9,)), ("d", "", (9,))),
                (("p", "", (1,)), ("s", "", (9,)), ("t", "", (9,))),
                ((("a",), ("p",), 3, ((), ())),), ("c", "s"))
        self.assertEqual((state_of(book, "a"), state_of(book, "p")), (("step",), ("step",)))


class StateTest(unittest.TestCase):
    def test_each_state(self):
        expected = {"a": ("step",), "b": ("stale", 6), "c": ("alone",), "d": ("lacking",), "e": ("stale", 6),
                    "g": ("lacking",), "p": ("step",), "q": ("stale", 5), "r": ("stale", 5), "s": ("alone",),
                    "t": ("lacking",)}
        for name, state in expected.items():
            self.assertEqual(state_of(BOOK, name), state, name)

    def test_no_part(self):
        for book in (BOOK, EMPTY, CROSSED):
            with self.assertRaises(NoPart):
                state_of(book, "xx")

    def test_states(self):
        self.assertEqual(states(BOOK), (
            (("a", ("step",)), ("b", ("stale", 6)), ("c", ("alone",)), ("d", ("lacking",)), ("e", ("stale", 6)),
             ("g", ("lacking",))),
            (("p", ("step",)), ("q", ("stale", 5)), ("r", ("stale", 5)), ("s", ("alone",)), ("t", ("lacking",)))))
        self.assertEqual(states(EMPTY), ((), ()))

    def test_states_in_the_order_of_the_parts(self):
        self.assertEqual(states(CROSSED), (
            (("z", ("stale", 4)), ("m", ("stale", 4)), ("y", ("lacking",)), ("k", ("lacking",))),
            (("n", ("step",)), ("x", ("lacking",)), ("l", ("step",)))))

    def test_lacking(self):
        self.assertEqual(lacking(BOOK), (("d", "g"), ("t",)))
        self.assertEqual(lacking(EMPTY), ((), ()))
        self.assertEqual(lacking(linked(((1,),), ((1,),), 1)), ((), ()))

    def test_lacking_in_the_order_of_the_parts(self):
        self.assertEqual(lacking(CROSSED), (("y", "k"), ("x",)))
        self.assertEqual(lacking(CROSSED[:2] + ((), ("m",))), (("z", "y", "k"), ("n", "x", "l")))

    def test_stale(self):
        self.assertEqual(stale(BOOK), (("q", 5), ("r", 5), ("b", 6), ("e", 6)))
        self.assertEqual(stale(CROSSED), (("m", 4), ("z", 4)))
        self.assertEqual(stale(EMPTY), ())
        self.assertEqual(stale(linked(((1,),), ((1,),), 1)), ())

    def test_stale_by_numbers_and_then_by_names(self):
        book = ((("z", "", (10,)), ("a", "", (1,)), ("m", "", (9,))),
                (("y", "", (1,)), ("b", "", (9,)), ("c", "", (1,))),
                ((("a",), ("b",), 3, ((), ())), (("m",), ("c",), 3, ((), ())), (("z",), ("y",), 3, ((), ()))), ())
        self.assertEqual(stale(book), (("a", 9), ("c", 9), ("y", 10)))

    def test_in_step(self):
        self.assertIs(in_step(EMPTY), True)
        self.assertIs(in_step(linked(((1,),), ((1,),), 1)), True)
        self.assertIs(in_step(BOOK[:2] + ((), tuple("abcdegpqrst"))), True)
        self.assertIs(in_step(done(linked(((1,),), ((1,),), 1), ("change", 1, "a", ""))), True)

    def test_not_in_step(self):
        self.assertIs(in_step(BOOK), False)
        self.assertIs(in_step(linked(((2,),), ((1,),), 1)), False)
        self.assertIs(in_step(linked(((1,),), ((2,),), 1)), False)
        self.assertIs(in_step(linked(((1,),), ((1,),), 1, ((), (2,)))), False)
        self.assertIs(in_step(((("a", "", (1,)),), (), (), ())), False)
        self.assertIs(in_step(((), (("a", "", (1,)),), (), ())), False)
        self.assertIs(in_step(BOOK[:2] + ((), tuple("abcdegpqrs"))), False)

    def test_a_begun_book_is_lacking(self):
        book = begun("One. Two.", "Eins.", (((".",), ()),), 4)
        self.assertEqual(states(book), ((("a", ("lacking",)), ("b", ("lacking",))), (("c", ("lacking",)),)))

    def test_nothing_is_changed_and_the_same_is_told_again(self):
        for told in (states, lacking, stale, in_step):
            before = repr(BOOK)
            self.assertEqual(told(BOOK), told(BOOK))
            self.assertEqual(repr(BOOK), before)


class StatesBehindDeedsTest(unittest.TestCase):
    start = linked(((1,), (1,)), ((1,), (1,)), 1)

    def behind(self, *deeds):
        return states(all_done(self.start, deeds))

    def told(self, left, right):
        one = ("step",) if left is None else ("stale", left)
        other = ("step",) if right is None else ("stale", right)
        return ((("a", one), ("b", one)), (("p", other), ("q", other)))

    def test_changed_and_told_in_step_again(self):
        self.assertEqual(self.behind(), self.told(None, None))
        self.assertEqual(self.behind(("change", 5, "a", "z")), self.told(None, 5))
        self.assertEqual(self.behind(("change", 5, "a", "z"), ("word", 3, "b", 0, "z")), self.told(None, 3))
        self.assertEqual(self.behind(("change", 5, "a", "z"), ("step", 5, "q")), self.told(None, None))
        self.assertEqual(self.behind(("change", 5, "a", "z"), ("step", 4, "q")), self.told(None, 5))
        self.assertEqual(self.behind(("step", 9, "q"), ("change", 5, "a", "z")), self.told(None, None))

    def test_lost_and_told_in_step_again(self):
        lost = (("part", 2, "a", 1, "c"), ("take", 6, "c"))
        book = all_done(self.start, (("change", 1, "a", "xx"),) + lost)
        self.assertEqual(states(book), self.told(None, 6))
        self.assertEqual(states(done(book, ("step", 5, "a"))), self.told(None, None))
        self.assertEqual(states(done(book, ("move", 7, "a", "b")))[0], self.told(None, 6)[0][::-1])

    def test_orders_of_moments_do_not_matter(self):
        changes = (("change", 4, "a", "u"), ("change", 2, "b", "v"), ("change", 3, "p", "w"))
        for deeds in itertools.permutations(changes):
            self.assertEqual(self.behind(*deeds), self.told(3, 2), deeds)

    def test_loosed_and_linked_again(self):
        self.assertEqual(self.behind(("loose", 2, "a"), ("link", 0, ("b", "a"), ("p", "q"))), self.told(1, 1))
        self.assertEqual(self.behind(("loose", 2, "a"), ("alone", 2, "b"))[0], (("a", ("lacking",)), ("b", ("alone",))))


if __name__ == "__main__":
    unittest.main()
