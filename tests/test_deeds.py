import unittest

from helper import BOOK, CROSSED, Ledger, every_deed
from twainkeep.books import EMPTY, is_book, link_of, members, moments_of, text_of
from twainkeep.cutting import cut_up, leaves
from twainkeep.deeds import all_done, begun, done, is_deed
from twainkeep.errors import Apart, Linked, NoPart, NoPlace, Twice
from twainkeep.names import name_at

LEFT, RIGHT, LINKS, ALONE = BOOK
A_P, BE_QR = LINKS
LAST = 10 ** 12


def names(book, side):
    return "".join(part[0] for part in book[side])


class DeedTest(unittest.TestCase):
    def refused(self, error, book, *deeds):
        for deed in deeds:
            self.assertIs(is_deed(deed), True, deed)
            before = repr(book)
            with self.assertRaises(error, msg=deed) as caught:
                done(book, deed)
            self.assertIs(type(caught.exception), error, deed)
            self.assertEqual(repr(book), before)

    def behind(self, deed, left=LEFT, right=RIGHT, links=LINKS, alone=ALONE):
        self.assertIs(is_deed(deed), True, deed)
        self.assertEqual(done(BOOK, deed), (left, right, links, alone), deed)
        self.assertEqual(done(BOOK, deed), (left, right, links, alone), deed)


class PutTest(DeedTest):
    def test_at_the_head_within_and_at_the_end(self):
        part = ("x", "New.", (7,))
        self.behind(("put", 7, 0, "", "x", "New."), left=(part,) + LEFT)
        self.behind(("put", 7, 0, "b", "x", "New."), left=LEFT[:2] + (part,) + LEFT[2:])
        self.behind(("put", 7, 0, "g", "x", "New."), left=LEFT + (part,))
        self.behind(("put", 7, 1, "", "x", "New."), right=(part,) + RIGHT)
        self.behind(("put", 7, 1, "p", "x", "New."), right=RIGHT[:1] + (part,) + RIGHT[1:])
        self.behind(("put", 7, 1, "t", "x", "New."), right=RIGHT + (part,))

    def test_into_an_empty_book(self):
        self.assertEqual(done(EMPTY, ("put", 0, 1, "", "abcdefgh", "")), ((), (("abcdefgh", "", (0,)),), (), ()))
        self.assertEqual(done(EMPTY, ("put", LAST, 0, "", "a", "x\n")), ((("a", "x\n", (LAST,)),), (), (), ()))

    def test_refused(self):
        self.refused(NoPart, BOOK, ("put", 1, 0, "x", "y", ""), ("put", 1, 1, "x", "y", ""),
                     ("put", 1, 0, "x", "x", ""))
        self.refused(NoPlace, BOOK, ("put", 1, 0, "p", "y", ""), ("put", 1, 1, "a", "y", ""))
        self.refused(Twice, BOOK, ("put", 1, 0, "", "a", ""), ("put", 1, 0, "", "p", ""), ("put", 1, 1, "q", "a", ""),
                     ("put", 1, 0, "a", "a", ""))

    def test_the_first_refusal(self):
        self.refused(NoPart, BOOK, ("put", 1, 0, "x", "a", ""))
        self.refused(NoPlace, BOOK, ("put", 1, 0, "p", "a", ""), ("put", 1, 1, "a", "a", ""))


class TakeTest(DeedTest):
    def test_the_last_of_its_side_in_a_link(self):
        self.behind(("take", 9, "a"), left=LEFT[1:], links=(BE_QR,))
        self.behind(("take", 9, "p"), right=RIGHT[1:], links=(BE_QR,))

    def test_another_one_of_a_link(self):
        self.behind(("take", 9, "b"), left=LEFT[:1] + LEFT[2:], links=(A_P, (("e",), ("q", "r"), 4, ((7, 9), (3, 9)))))
        self.behind(("take", 1, "e"), left=LEFT[:4] + LEFT[5:], links=(A_P, (("b",), ("q", "r"), 4, ((1, 7), (3, 9)))))
        self.behind(("take", 5, "r"), right=RIGHT[:2] + RIGHT[3:],
                    links=(A_P, (("b", "e"), ("q",), 4, ((7,), (3, 5, 9)))))

    def test_a_moment_lost_twice_is_there_once(self):
        self.behind(("take", 7, "b"), left=LEFT[:1] + LEFT[2:], links=(A_P, (("e",), ("q", "r"), 4, ((7,), (3, 9)))))
        self.behind(("take", 3, "q"), right=RIGHT[:1] + RIGHT[2:], links=(A_P, (("b", "e"), ("r",), 4, ((7,), (3, 9)))))

    def test_one_behind_the_other_the_link_goes(self):
        book = all_done(BOOK, (("take", 5, "b"), ("take", 6, "e")))
        self.assertEqual(book, (LEFT[:1] + LEFT[2:4] + LEFT[5:], RIGHT, (A_P,), ALONE))

    def test_links_rise_when_the_first_name_goes(self):
        book = ((("a", "", (1,)), ("b", "", (1,)), ("c", "", (1,))), (("p", "", (1,)), ("q", "", (1,))),
                ((("a", "c"), ("p",), 1, ((), ())), (("b",), ("q",), 1, ((), ()))), ())
        self.assertEqual(done(book, ("take", 2, "a"))[2],
                         ((("b",), ("q",), 1, ((), ())), (("c",), ("p",), 1, ((2,), ()))))

    def test_alone_and_lacking(self):
        self.behind(("take", 9, "c"), left=LEFT[:2] + LEFT[3:], alone=("s",))
        self.behind(("take", 9, "s"), right=RIGHT[:3] + RIGHT[4:], alone=("c",))
        self.behind(("take", 9, "d"), left=LEFT[:3] + LEFT[4:])
        self.assertEqual(done(((("a", "x", (1,)),), (), (), ()), ("take", 1, "a")), EMPTY)

    def test_refused(self):
        self.refused(NoPart, BOOK, ("take", 1, "x"))
        self.refused(NoPart, EMPTY, ("take", 1, "a"))


class PartTest(DeedTest):
    def test_in_a_link(self):
        self.behind(("part", 99, "b", 6, "x"),
                    left=LEFT[:1] + (("b", "Three,", (2, 5)), ("x", " four", (2, 5))) + LEFT[2:],
                    links=(A_P, (("b", "e", "x"), ("q", "r"), 4, ((7,), (3, 9)))))
        self.behind(("part", 99, "p", 1, "aa"),
                    right=(("p", "E", (1,)), ("aa", "ins zwei.", (1,))) + RIGHT[1:],
                    links=((("a",), ("aa", "p"), 1, ((), ())), BE_QR))

    def test_links_rise_when_a_lesser_name_comes(self):
        book = done(BOOK, ("take", 1, "a"))
        book = done(book, ("link", 2, ("d",), ("t",)))
        self.assertEqual([link[0] for link in done(book, ("part", 3, "e", 3, "zz"))[2]], [("b", "e", "zz"), ("d",)])
        book = all_done(CROSSED, (("link", 1, ("k",), ("x",)), ("part", 2, "z", 1, "a")))
        self.assertEqual([link[0] for link in book[2]], [("a", "m", "z"), ("k",)])

    def test_alone(self):
        self.behind(("part", 99, "c", 3, "x"), left=LEFT[:2] + (("c", "Fiv", (1, 12)), ("x", "e", (1, 12))) + LEFT[3:],
                    alone=("c", "s", "x"))
        self.behind(("part", 99, "s", 1, "b" * 8), right=RIGHT[:3] + (("s", "a", (0,)),
                                                                      ("b" * 8, " b", (0,))) + RIGHT[4:],
                    alone=("bbbbbbbb", "c", "s"))

    def test_lacking(self):
        book = done(CROSSED, ("part", 9, "k", 4, "x" * 2))
        self.assertEqual(book, (CROSSED[0][:3] + (("k", "ij k", (5,)), ("xx", "l", (5,))),) + CROSSED[1:])

    def test_at_the_edges(self):
        self.assertEqual(done(BOOK, ("part", 1, "c", 1, "x"))[0][2:4], (("c", "F", (1, 12)), ("x", "ive", (1, 12))))
        self.refused(NoPlace, BOOK, ("part", 1, "c", 0, "x"), ("part", 1, "c", 4, "x"), ("part", 1, "c", 5, "x"),
                     ("part", 1, "c", LAST, "x"), ("part", 1, "d", 0, "x"), ("part", 1, "d", 1, "x"),
                     ("part", 1, "g", 0, "x"), ("part", 1, "g", 1, "x"))

    def test_refused(self):
        self.refused(NoPart, BOOK, ("part", 1, "x", 1, "y"))
        self.refused(Twice, BOOK, ("part", 1, "a", 1, "b"), ("part", 1, "a", 1, "p"), ("part", 1, "a", 1, "a"))

    def test_the_first_refusal(self):
        self.refused(NoPart, BOOK, ("part", 1, "x", 1, "a"), ("part", 1, "x", 0, "x"), ("part", 1, "x", 0, "a"))
        self.refused(Twice, BOOK, ("part", 1, "a", 0, "b"), ("part", 1, "d", 1, "d"), ("part", 1, "a", LAST, "t"))


class JoinTest(DeedTest):
    def test_in_a_link_and_no_neighbours(self):
        self.behind(("join", 99, "b", "e"),
                    left=(LEFT[0], ("b", "Three, fourSix-seven 8", (2, 4, 5))) + LEFT[2:4] + LEFT[5:],
                    links=(A_P, (("b",), ("q", "r"), 4, ((7,), (3, 9)))))
        self.behind(("join", 99, "e", "b"),
                    left=(LEFT[0],) + LEFT[2:4] + (("e", "Six-seven 8Three, four", (2, 4, 5)), LEFT[5]),
                    links=(A_P, (("e",), ("q", "r"), 4, ((7,), (3, 9)))))

    def test_neighbours(self):
        self.behind(("join", 99, "q", "r"), right=(RIGHT[0], ("q", "Dreivier", (2, 6))) + RIGHT[3:],
                    links=(A_P, (("b", "e"), ("q",), 4, ((7,), (3, 9)))))
        self.behind(("join", 99, "r", "q"), right=(RIGHT[0], ("r", "vierDrei", (2, 6))) + RIGHT[3:],
                    links=(A_P, (("b", "e"), ("r",), 4, ((7,), (3, 9)))))

    def test_alone(self):
        book = done(BOOK, ("alone", 1, "d"))
        self.assertEqual(done(book, ("join", 9, "c", "d")),
                         (LEFT[:2] + (("c", "Five", (1, 3, 12)),) + LEFT[4:], RIGHT, LINKS, ALONE))
        self.assertEqual(done(book, ("join", 9, "d", "c")),
                         (LEFT[:2] + (("d", "Five", (1, 3, 12)),) + LEFT[4:], RIGHT, LINKS, ("d", "s")))

    def test_lacking(self):
        self.behind(("join", 99, "g", "d"), left=LEFT[:3] + (LEFT[4], ("g", "x", (3, 8))))
        self.assertEqual(done(CROSSED, ("join", 0, "k", "y"))[0],
                         (CROSSED[0][0], CROSSED[0][1], ("k", "ij klgh", (0, 5))))

    def test_moments_of_both_each_once(self):
        book = all_done(BOOK, (("change", 3, "g", "y"), ("change", 5, "d", "z")))
        self.assertEqual(moments_of(done(book, ("join", 4, "d", "g")), "d"), (3, 5, 8))

    def test_refused(self):
        self.refused(NoPart, BOOK, ("join", 1, "x", "a"), ("join", 1, "a", "x"), ("join", 1, "x", "x"),
                     ("join", 1, "x", "y"))
        self.refused(NoPlace, BOOK, ("join", 1, "a", "p"), ("join", 1, "b", "q"), ("join", 1, "a", "a"),
                     ("join", 1, "d", "d"),
                     ("join", 1, "d", "t"), ("join", 1, "c", "s"))
        self.refused(Apart, BOOK, ("join", 1, "a", "b"), ("join", 1, "b", "a"), ("join", 1, "a", "c"),
                     ("join", 1, "c", "a"),
                     ("join", 1, "a", "d"), ("join", 1, "d", "a"), ("join", 1, "c", "d"), ("join", 1, "d", "c"),
                     ("join", 1, "s", "t"), ("join", 1, "t", "q"))

    def test_the_first_refusal(self):
        self.refused(NoPart, BOOK, ("join", 1, "x", "p"))
        self.refused(NoPlace, BOOK, ("join", 1, "a", "q"), ("join", 1, "d", "s"))


class MoveTest(DeedTest):
    def test_to_the_head(self):
        self.behind(("move", 9, "c", ""), left=(LEFT[2],) + LEFT[:2] + LEFT[3:])
        self.behind(("move", 9, "t", ""), right=(RIGHT[4],) + RIGHT[:4])
        self.behind(("move", 9, "a", ""))

    def test_behind_one_ahead_of_it_and_one_behind_it(self):
        self.assertEqual(names(done(BOOK, ("move", 9, "e", "a")), 0), "aebcdg")
        self.assertEqual(names(done(BOOK, ("move", 9, "a", "d")), 0), "bcdaeg")
        self.assertEqual(names(done(BOOK, ("move", 9, "a", "g")), 0), "bcdega")
        self.assertEqual(names(done(BOOK, ("move", 9, "q", "r")), 1), "prqst")
        self.behind(("move", 9, "b", "d"), left=(LEFT[0],) + LEFT[2:4] + (LEFT[1],) + LEFT[4:])

    def test_where_it_is(self):
        self.behind(("move", 9, "b", "a"))

    def test_refused(self):
        self.refused(NoPart, BOOK, ("move", 1, "x", "a"), ("move", 1, "x", ""), ("move", 1, "a", "x"),
                     ("move", 1, "x", "x"))
        self.refused(NoPlace, BOOK, ("move", 1, "a", "p"), ("move", 1, "q", "b"), ("move", 1, "a", "a"),
                     ("move", 1, "t", "t"))


class ChangeTest(DeedTest):
    def test_its_text_and_its_moments(self):
        self.behind(("change", 9, "b", "Other."), left=(LEFT[0], ("b", "Other.", (2, 5, 9))) + LEFT[2:])
        self.behind(("change", 9, "s", ""), right=RIGHT[:3] + (("s", "", (0, 9)),) + RIGHT[4:])
        self.behind(("change", 9, "d", "x\n~"), left=LEFT[:3] + (("d", "x\n~", (3, 9)),) + LEFT[4:])

    def test_moments_that_do_not_rise_or_come_twice(self):
        self.assertEqual(moments_of(done(BOOK, ("change", 0, "b", "")), "b"), (0, 2, 5))
        self.assertEqual(moments_of(done(BOOK, ("change", 3, "b", "")), "b"), (2, 3, 5))
        self.assertEqual(moments_of(done(BOOK, ("change", 2, "b", "")), "b"), (2, 5))
        self.assertEqual(moments_of(done(BOOK, ("change", 5, "b", "")), "b"), (2, 5))
        self.assertEqual(moments_of(done(BOOK, ("change", LAST, "b", "")), "b"), (2, 5, LAST))

    def test_to_the_same_text(self):
        self.behind(("change", 9, "c", "Five"), left=LEFT[:2] + (("c", "Five", (1, 9, 12)),) + LEFT[3:])

    def test_refused(self):
        self.refused(NoPart, BOOK, ("change", 1, "x", "y"))


class WordTest(DeedTest):
    def text_behind(self, text, k, word):
        book = ((("a", text, (4,)),), (), (), ())
        deed = ("word", 2, "a", k, word)
        self.assertIs(is_deed(deed), True)
        behind = done(book, deed)
        self.assertEqual(moments_of(behind, "a"), (2, 4))
        return text_of(behind, "a")

    def test_at_the_begin_within_and_at_the_end(self):
        self.assertEqual(self.text_behind("one two three", 0, "X"), "X two three")
        self.assertEqual(self.text_behind("one two three", 1, "X"), "one X three")
        self.assertEqual(self.text_behind("one two three", 2, "X"), "one two X")
        self.assertEqual(self.text_behind("one", 0, "longer1"), "longer1")
        self.assertEqual(self.text_behind(" (one) -two-. ", 0, "X"), " (X) -two-. ")
        self.assertEqual(self.text_behind(" (one) -two-. ", 1, "X"), " (one) -X-. ")

    def test_words_that_hold_one_another(self):
        self.assertEqual(self.text_behind("onetwo one two", 1, "X"), "onetwo X two")
        self.assertEqual(self.text_behind("onetwo one two", 2, "X"), "onetwo one X")
        self.assertEqual(self.text_behind("a a a a", 2, "b"), "a a b a")
        self.assertEqual(self.text_behind("aa a aaa a", 3, "b"), "aa a aaa b")
        self.assertEqual(self.text_behind("ab b\nab", 2, "b"), "ab b\nb")

    def test_all_that_is_changed(self):
        self.behind(("word", 3, "e", 1, "Neun"), left=LEFT[:4] + (("e", "Six-Neun 8", (3, 4)),) + LEFT[5:])
        self.behind(("word", 4, "e", 2, "9"), left=LEFT[:4] + (("e", "Six-seven 9", (4,)),) + LEFT[5:])

    def test_refused(self):
        self.refused(NoPart, BOOK, ("word", 1, "x", 0, "y"))
        self.refused(NoPlace, BOOK, ("word", 1, "a", 2, "y"), ("word", 1, "a", LAST, "y"), ("word", 1, "d", 0, "y"))
        self.refused(NoPlace, ((("a", " .-\n", (1,)),), (), (), ()), ("word", 1, "a", 0, "y"))


class LinkTest(DeedTest):
    def test_a_link(self):
        self.behind(("link", 9, ("d",), ("t",)), links=LINKS + ((("d",), ("t",), 9, ((), ())),))

    def test_of_names_in_any_order(self):
        expected = LINKS + ((("d", "g"), ("t",), 0, ((), ())),)
        self.behind(("link", 0, ("d", "g"), ("t",)), links=expected)
        self.behind(("link", 0, ("g", "d"), ("t",)), links=expected)
        book = (CROSSED[0], CROSSED[1], (), ())
        told = done(book, ("link", 5, ("z", "k", "y", "m"), ("x", "l", "n")))
        self.assertEqual(told[2], ((("k", "m", "y", "z"), ("l", "n", "x"), 5, ((), ())),))

    def test_links_rise(self):
        book = all_done(CROSSED, (("link", 1, ("y",), ("x",)),))
        self.assertEqual([link[0] for link in book[2]], [("m", "z"), ("y",)])
        book = all_done(CROSSED, (("link", 1, ("k",), ("x",)),))
        self.assertEqual([link[0] for link in book[2]], [("k",), ("m", "z")])

    def test_refused(self):
        self.refused(NoPart, BOOK, ("link", 1, ("x",), ("t",)), ("link", 1, ("d",), ("x",)),
                     ("link", 1, ("d", "x"), ("t",)))
        self.refused(NoPlace, BOOK, ("link", 1, ("t",), ("d",)), ("link", 1, ("d",), ("g",)),
                     ("link", 1, ("d", "t"), ("s",)),
                     ("link", 1, ("d",), ("t", "g")))
        self.refused(Linked, BOOK, ("link", 1, ("a",), ("t",)), ("link", 1, ("d",), ("p",)),
                     ("link", 1, ("d", "c"), ("t",)),
                     ("link", 1, ("d",), ("t", "s")), ("link", 1, ("b", "e"), ("q", "r")))

    def test_the_first_refusal(self):
        self.refused(NoPart, BOOK, ("link", 1, ("t",), ("x",)), ("link", 1, ("a", "p"), ("b", "x")))
        self.refused(NoPlace, BOOK, ("link", 1, ("a",), ("b",)), ("link", 1, ("a", "d"), ("t", "c")))


class LooseAndStepTest(DeedTest):
    def test_loose(self):
        for name in "ap":
            self.behind(("loose", 9, name), links=(BE_QR,))
        for name in "beqr":
            self.behind(("loose", 9, name), links=(A_P,))

    def test_step(self):
        for name in "ap":
            self.behind(("step", 9, name), links=((("a",), ("p",), 9, ((), ())), BE_QR))
        for name in "beqr":
            self.behind(("step", 2, name), links=(A_P, (("b", "e"), ("q", "r"), 2, ((), ()))))

    def test_refused(self):
        for word in ("loose", "step"):
            self.refused(NoPart, BOOK, (word, 1, "x"))
            self.refused(Apart, BOOK, *[(word, 1, name) for name in "cdgst"])


class AloneAndLackTest(DeedTest):
    def test_alone(self):
        self.behind(("alone", 9, "d"), alone=("c", "d", "s"))
        self.behind(("alone", 9, "t"), alone=("c", "s", "t"))

    def test_alone_refused(self):
        self.refused(NoPart, BOOK, ("alone", 1, "x"))
        self.refused(Linked, BOOK, *[("alone", 1, name) for name in "acepqs"])

    def test_lack(self):
        self.behind(("lack", 9, "c"), alone=("s",))
        self.behind(("lack", 9, "s"), alone=("c",))

    def test_lack_refused(self):
        self.refused(NoPart, BOOK, ("lack", 1, "x"))
        self.refused(Apart, BOOK, *[("lack", 1, name) for name in "abdegpqrt"])


class EveryDeedTest(unittest.TestCase):
    def check(self, book, deeds):
        shapes = {}
        for deed in deeds:
            self.assertIs(is_deed(deed), True, deed)
            ledger = Ledger(book)
            refusal = ledger.refusal(deed)
            shapes.setdefault(deed[0], set()).add(refusal)
            if refusal is None:
                ledger.do(deed)
                told = done(book, deed)
                self.assertEqual(told, ledger.book(), deed)
                self.assertIs(is_book(told), True, deed)
            else:
                with self.assertRaises(refusal, msg=deed):
                    done(book, deed)
        return shapes

    def test_every_deed_as_the_own_count_says(self):
        shapes = self.check(BOOK, every_deed(sorted("abcdegpqrstx"), 6))
        self.assertEqual(shapes, {
            "put": {None, NoPart, NoPlace, Twice}, "take": {None, NoPart}, "part": {None, NoPart, Twice, NoPlace},
            "join": {None, NoPart, NoPlace, Apart}, "move": {None, NoPart, NoPlace}, "change": {None, NoPart},
            "word": {None, NoPart, NoPlace}, "link": {None, NoPart, NoPlace, Linked}, "loose": {None, NoPart, Apart},
            "step": {None, NoPart, Apart}, "alone": {None, NoPart, Linked}, "lack": {None, NoPart, Apart}})

    def test_in_another_book_with_links_of_several(self):
        self.check(CROSSED, every_deed(sorted("klmnxyza"), 2, most=2))
        self.check(CROSSED[:2] + ((), ("k", "l", "m", "x")), every_deed(sorted("klmnxyza"), LAST))

    def test_in_the_empty_book(self):
        self.check(EMPTY, every_deed(["a", "b"], 0))


class AllDoneTest(unittest.TestCase):
    def test_of_no_deeds(self):
        self.assertEqual(all_done(BOOK, ()), BOOK)
        self.assertEqual(all_done(EMPTY, ()), EMPTY)

    def test_of_several(self):
        deeds = (("put", 5, 0, "", "a", "One two."), ("put", 5, 1, "", "b", "Eins zwei."), ("link", 4, ("a",), ("b",)),
                 ("part", 3, "a", 4, "c"), ("word", 1, "c", 0, "three"))
        self.assertEqual(all_done(EMPTY, deeds), (
            (("a", "One ", (5,)), ("c", "three.", (1, 5))), (("b", "Eins zwei.", (5,)),),
            ((("a", "c"), ("b",), 4, ((), ())),), ()))

    def test_refused_as_the_first_that_is(self):
        good = ("take", 1, "a")
        for error, deed in ((NoPart, ("take", 1, "x")), (Apart, ("step", 1, "d")), (Linked, ("alone", 1, "b")),
                            (Twice, ("put", 1, 0, "", "b", "")), (NoPlace, ("move", 1, "b", "p"))):
            for deeds in ((deed,), (good, deed), (good, deed, good), (deed, ("take", 1, "y"), ("step", 1, "c"))):
                with self.assertRaises(error, msg=deeds):
                    all_done(BOOK, deeds)

    def test_refused_by_what_is_done_ahead(self):
        with self.assertRaises(NoPart):
            all_done(BOOK, (("take", 1, "a"), ("take", 1, "a")))
        with self.assertRaises(Apart):
            all_done(BOOK, (("loose", 1, "a"), ("loose", 1, "p")))

    def test_a_name_that_is_free_again(self):
        book = all_done(BOOK, (("take", 1, "a"), ("put", 2, 1, "t", "a", "neu")))
        self.assertEqual(book, (LEFT[1:], RIGHT + (("a", "neu", (2,)),), (BE_QR,), ALONE))

    def test_what_was_told_may_be_handed_in_again_whatever_its_size(self):
        book = begun("x." * 2000, "y." * 2000, (((".",), ()),), 1)
        first, last = book[0][0][0], book[0][-1][0]
        book = all_done(book, [("join", 2, first, name_at(k)) for k in range(1, 100)])
        book = all_done(book, (("change", 3, last, "z " * 5000), ("word", 4, last, 4999, "end"),
                               ("link", 5, (first, last), (book[1][7][0],))))
        self.assertIs(is_book(book), True)
        self.assertEqual(text_of(book, first), "x." * 100)
        self.assertEqual(text_of(book, last), "z " * 4999 + "end ")
        self.assertEqual(len(members(book, first)), 3)
        self.assertEqual(link_of(book, first), link_of(book, last))


class BegunTest(unittest.TestCase):
    rules = ((("\n",), ()), ((".", "!"), ("e.g.",)))

    def test_of_several_levels(self):
        self.assertEqual(begun("One. Two!\nThree", "Eins, e.g. zwei.", self.rules, 7), (
            (("a", "One.", (7,)), ("b", " Two!", (7,)), ("c", "\n", (7,)), ("d", "Three", (7,))),
            (("e", "Eins, e.g. zwei.", (7,)),), (), ()))

    def test_of_empty_texts(self):
        self.assertEqual(begun("", "", self.rules, 0), EMPTY)
        self.assertEqual(begun("", "x.y.", self.rules, 0), ((), (("a", "x.", (0,)), ("b", "y.", (0,))), (), ()))
        self.assertEqual(begun("x", "", self.rules, LAST), ((("a", "x", (LAST,)),), (), (), ()))

    def test_names_go_on_from_the_left_to_the_right(self):
        book = begun("x." * 25, "y." * 4, self.rules, 1)
        self.assertEqual([part[0] for part in book[0]], [name_at(k) for k in range(25)])
        self.assertEqual([part[0] for part in book[1]], ["z", "aa", "ab", "ac"])

    def test_its_parts_are_the_leaves(self):
        one, other = "A b.\nC d! e.g. f\n\n.", "!!\n..x"
        book = begun(one, other, self.rules, 3)
        self.assertIs(is_book(book), True)
        for side, text in ((0, one), (1, other)):
            self.assertEqual([part[1] for part in book[side]], [leaf[1] for leaf in leaves(cut_up(text, self.rules))])
        self.assertEqual("".join(part[1] for part in book[0]), one)


if __name__ == "__main__":
    unittest.main()
