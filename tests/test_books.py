import unittest

from helper import BOOK, CROSSED, at, places_in, put_at, strange_things
from twainkeep.books import EMPTY, is_book, link_of, members, moments_of, side_of, text_of
from twainkeep.errors import NoPart

LAST = 10 ** 12
A = ("a", "One.", (1,))
B = ("b", "Two.", (2, 5))
C = ("c", "Three.", (0,))
P = ("p", "Eins.", (1,))
Q = ("q", "Zwei.", (3,))
R = ("r", "Drei.", (LAST,))
NONE_LOST = ((), ())


def with_part(part):
    return ((part,), (P,), (), ())


def with_moments(moments):
    return with_part(("a", "One.", moments))


def with_links(*links):
    return ((A, B, C), (P, Q, R), links, ())


def with_alone(*alone):
    return ((A, B, C), (P, Q, R), ((("b",), ("q", "r"), 1, NONE_LOST),), alone)


class IsBookTest(unittest.TestCase):
    def check(self, expected, *things):
        for thing in things:
            self.assertIs(is_book(thing), expected, repr(thing))

    def test_without_parts(self):
        self.assertEqual(EMPTY, ((), (), (), ()))
        self.check(True, EMPTY, ((), (), (), ()))

    def test_parts_on_one_side_or_both(self):
        self.check(True, ((A,), (), (), ()), ((), (P, Q), (), ()), ((A, B), (P,), (), ()), ((B, A), (Q, P), (), ()))

    def test_names_need_not_rise_nor_keep_to_a_side(self):
        self.check(True, ((P, A), (C, B), (), ()))

    def test_links_of_several_parts_with_lost_moments(self):
        self.check(
            True, with_links((("a",), ("p",), 1, NONE_LOST)),
            with_links((("a", "b"), ("p", "q", "r"), 0, ((1, 2), (LAST,)))),
            with_links((("a", "c"), ("q",), LAST, ((), (0,))), (("b",), ("p", "r"), 3, ((0, 1), ()))), BOOK, CROSSED)

    def test_lost_moments_need_not_be_above_that_told(self):
        self.check(True, with_links((("a",), ("p",), 9, ((1, 9), (9, 10)))))

    def test_the_same_moment_may_be_lost_on_both_sides(self):
        self.check(True, with_links((("a",), ("p",), 0, ((4,), (4,)))))

    def test_alone_ones(self):
        self.check(True, with_alone(), with_alone("a"), with_alone("a", "c", "p"))

    def test_texts_of_all_signs_and_any_length(self):
        signs = "\n" + "".join(chr(code) for code in range(32, 127))
        self.check(True, with_part(("a", signs, (1,))), with_part(("a", "", (1,))), with_part(("a", "x" * 50000, (1,))))

    def test_texts_with_other_signs(self):
        wrong = [chr(code) for code in range(0, 32) if code != 10] + [chr(code) for code in range(127, 260)]
        for sign in wrong + ["\u2028", "\uff41", "\ud800", "\U0001f600"]:
            self.check(False, with_part(("a", sign, (1,))), with_part(("a", "ab" + sign + "c", (1,))))

    def test_texts_of_another_kind(self):
        self.check(False, *[with_part(("a", text, (1,))) for text in (None, 1, True, b"x", ("x",), ["x"], {})])

    def test_any_number_of_parts(self):
        letters = "abcdefghijklmnopqrstuvwxyz"
        names = [one + other + third for one in letters[:3] for other in letters for third in letters]
        left = tuple((name, "x", (1,)) for name in names)
        right = tuple((name + "r", "y", (1,)) for name in names)
        links = tuple(((name,), (name + "r",), 1, NONE_LOST) for name in sorted(names))
        self.check(True, (left, right, (), ()), (left, right, links, ()), (left, right, (), tuple(sorted(names))))
        self.check(False, (left, right + left[-1:], links, ()))

    def test_too_few_or_too_many_things(self):
        part, link = ("a", "One.", (1,)), (("a",), ("p",), 1, NONE_LOST)
        self.check(False, (), ((),), ((), (), ()), ((), (), (), (), ()), ((A,), (P,), ()))
        self.check(False, with_part(part[:2]), with_part(part + (1,)), with_part(()))
        self.check(False, with_links(link[:3]), with_links(link + ((),)), with_links(()))
        self.check(False, *[with_links(link[:3] + (lost,)) for lost in ((), ((),), ((), (), ()), (1,), (1, 2))])

    def test_a_list_is_no_tuple_wherever_it_stands(self):
        for book in (BOOK, CROSSED, EMPTY):
            for path in places_in(book):
                if isinstance(at(book, path), tuple):
                    self.check(False, put_at(book, path, list(at(book, path))))

    def test_things_of_any_kind(self):
        for thing in strange_things():
            self.check(False, thing)

    def test_things_of_any_kind_wherever_they_stand(self):
        for path in places_in(BOOK):
            for thing in strange_things():
                # A few of them are right at some places: nothing else is asked than an answer.
                self.assertIn(is_book(put_at(BOOK, path, thing)), (True, False))
                if path and (thing is None or isinstance(thing, (bool, float, list, dict, set, bytes))):
                    self.check(False, put_at(BOOK, path, thing))

    def test_a_truth_is_no_number(self):
        self.check(False, with_moments((True,)), with_moments((False, 1)), with_moments((0, True)))
        self.check(False, with_links((("a",), ("p",), True, NONE_LOST)), with_links((("a",), ("p",), 0, ((True,), ()))),
                   with_links((("a",), ("p",), 0, ((), (False,)))))

    def test_moments_of_a_part(self):
        self.check(True, with_moments((0,)), with_moments((LAST,)), with_moments((0, 1, LAST)))
        self.check(False, with_moments(()), with_moments((2, 1)), with_moments((1, 1)), with_moments((1, 3, 2)),
                   with_moments((LAST + 1,)), with_moments((-1,)), with_moments((-1, 1)), with_moments((1, LAST + 1)),
                   with_moments((1.0,)), with_moments(("1",)), with_moments((None,)), with_moments((1, None)),
                   with_moments(1), with_moments(None), with_moments("1"), with_moments([1]))

    def test_moments_of_a_link(self):
        def link(told, lost):
            return with_links((("a",), ("p",), told, lost))

        self.check(True, link(0, NONE_LOST), link(LAST, NONE_LOST), link(1, ((0,), (0, LAST))))
        self.check(False, link(-1, NONE_LOST), link(LAST + 1, NONE_LOST), link("1", NONE_LOST), link(None, NONE_LOST),
                   link((1,), NONE_LOST), link(1, ((2, 1), ())), link(1, ((), (2, 2))), link(1, ((-1,), ())),
                   link(1, ((), (LAST + 1,))), link(1, (("1",), ())), link(1, (None, ())), link(1, None))

    def test_names(self):
        for name in ("", "A", "a1", "abcdefghi", " a", "a\n", None, 1, True, ("a",), ["a"], b"a"):
            self.check(False, with_part((name, "One.", (1,))), with_links(((name,), ("p",), 1, NONE_LOST)),
                       with_links((("a",), (name,), 1, NONE_LOST)), with_alone(name), with_alone("a", name))
        self.check(True, with_part(("abcdefgh", "One.", (1,))))

    def test_a_name_twice(self):
        self.check(False, ((A, A), (), (), ()), ((A, ("a", "Other.", (9,))), (P,), (), ()), ((), (P, Q, P), (), ()),
                   ((A,), (A,), (), ()), ((A, B), (P, ("b", "x", (1,))), (), ()))

    def test_links_that_do_not_rise(self):
        one = (("a",), ("q",), 1, NONE_LOST)
        other = (("b",), ("p",), 0, NONE_LOST)
        self.check(True, with_links(one, other))
        self.check(False, with_links(other, one), with_links(one, one))

    def test_names_in_a_link_that_do_not_rise(self):
        self.check(False, with_links((("b", "a"), ("p",), 1, NONE_LOST)),
                   with_links((("a",), ("q", "p"), 1, NONE_LOST)),
                   with_links((("a", "a"), ("p",), 1, NONE_LOST)), with_links((("a",), ("p", "p"), 1, NONE_LOST)))

    def test_a_link_without_names_on_a_side(self):
        self.check(False, with_links(((), ("p",), 1, NONE_LOST)), with_links((("a",), (), 1, NONE_LOST)),
                   with_links(((), (), 1, NONE_LOST)))

    def test_a_name_in_two_links(self):
        self.check(False, with_links((("a",), ("p",), 1, NONE_LOST), (("a", "b"), ("q",), 1, NONE_LOST)),
                   with_links((("a",), ("p", "q"), 1, NONE_LOST), (("b",), ("q",), 1, NONE_LOST)),
                   with_links((("a",), ("p",), 1, NONE_LOST), (("a",), ("p",), 2, NONE_LOST)))

    def test_a_name_of_the_wrong_side_or_of_no_part(self):
        self.check(False, with_links((("p",), ("q",), 1, NONE_LOST)), with_links((("a",), ("b",), 1, NONE_LOST)),
                   with_links((("p",), ("a",), 1, NONE_LOST)), with_links((("a", "p"), ("q",), 1, NONE_LOST)),
                   with_links((("x",), ("p",), 1, NONE_LOST)), with_links((("a",), ("p", "x"), 1, NONE_LOST)),
                   with_links((("a",), ("a",), 1, NONE_LOST)))

    def test_alone_that_are_wrong(self):
        self.check(False, with_alone("b"), with_alone("q"), with_alone("a", "r"), with_alone("x"), with_alone("a", "x"),
                   with_alone("c", "a"), with_alone("a", "a"), ((A,), (), (), ("a", "a")), ((A,), (), (), "a"),
                   ((A,), (), (), ["a"]), ((A,), (), (), None), ((), (), (), ("a",)))

    def test_links_or_parts_of_another_kind(self):
        self.check(False, with_part(None), with_part("abc"), with_part(3), with_links(None), with_links("abcd"),
                   with_links(4),
                   ("abc", (), (), ()), ({}, (), (), ()), ((), None, (), ()), ((), (), {}, ()), ((), (), "", ()),
                   ("", "", "", ""), ((), (), (), ""), ((), (), 0, ()))


class LookTest(unittest.TestCase):
    def test_side_of(self):
        self.assertEqual([side_of(BOOK, name) for name in "abcdeg"], [0] * 6)
        self.assertEqual([side_of(BOOK, name) for name in "pqrst"], [1] * 5)

    def test_text_of(self):
        for part in BOOK[0] + BOOK[1]:
            self.assertEqual(text_of(BOOK, part[0]), part[1])
        self.assertEqual(text_of(BOOK, "d"), "")

    def test_moments_of(self):
        for part in BOOK[0] + BOOK[1]:
            self.assertEqual(moments_of(BOOK, part[0]), part[2])
        self.assertEqual(moments_of(BOOK, "b"), (2, 5))

    def test_link_of(self):
        self.assertEqual(link_of(BOOK, "a"), (("a",), ("p",), 1, ((), ())))
        self.assertEqual(link_of(BOOK, "p"), (("a",), ("p",), 1, ((), ())))
        for name in "beqr":
            self.assertEqual(link_of(BOOK, name), (("b", "e"), ("q", "r"), 4, ((7,), (3, 9))))
        for name in "cdgst":
            self.assertIsNone(link_of(BOOK, name))

    def test_members(self):
        self.assertEqual(members(BOOK, "a"), ("a", "p"))
        self.assertEqual(members(BOOK, "p"), ("a", "p"))
        for name in "beqr":
            self.assertEqual(members(BOOK, name), ("b", "e", "q", "r"))
        for name in "cdgst":
            self.assertEqual(members(BOOK, name), (name,))

    def test_members_rise_over_both_sides(self):
        for name in "lmnz":
            self.assertEqual(members(CROSSED, name), ("l", "m", "n", "z"))

    def test_no_part(self):
        for look in (side_of, text_of, moments_of, link_of, members):
            for book, name in ((BOOK, "x"), (BOOK, "ab"), (BOOK, "pq"), (EMPTY, "a")):
                with self.assertRaises(NoPart):
                    look(book, name)

    def test_the_same_again_and_whole_numbers(self):
        before = repr(BOOK)
        for look in (side_of, text_of, moments_of, link_of, members):
            for name in "abcdegpqrst":
                self.assertEqual(look(BOOK, name), look(BOOK, name))
        self.assertIs(type(side_of(BOOK, "a")), int)
        self.assertIs(type(side_of(BOOK, "p")), int)
        self.assertEqual(repr(BOOK), before)


if __name__ == "__main__":
    unittest.main()
