import itertools
import unittest

from twainkeep.cutting import cut_up, leaves, sewn, tally

SENTENCES = ((".", "!", "?"), ("e.g.", "..."))
WORDS = ((" ", "\n"), ())
BOOK_RULES = ((("\n\n",), ()), SENTENCES, WORDS)


def cut(text, marks, kept=()):
    return cut_up(text, ((marks, kept),))


class OneLevelTest(unittest.TestCase):
    def test_ends_with_a_mark_or_not(self):
        self.assertEqual(cut("One. Two.", (".",)), ("One.", " Two."))
        self.assertEqual(cut("One. Two", (".",)), ("One.", " Two"))

    def test_has_no_mark(self):
        self.assertEqual(cut("One, two", (".",)), ("One, two",))
        self.assertEqual(cut("One. Two.", ()), ("One. Two.",))
        self.assertEqual(cut("a.b", (), (".",)), ("a.b",))

    def test_begins_with_a_mark_and_marks_alone(self):
        self.assertEqual(cut(".a", (".",)), (".", "a"))
        self.assertEqual(cut("...", (".",)), (".", ".", "."))

    def test_the_empty_text(self):
        self.assertEqual(cut("", (".",)), ())
        self.assertEqual(cut("", (), ()), ())

    def test_the_longest_mark(self):
        for marks in itertools.permutations((".", "..", "....")):
            self.assertEqual(cut("a..b.c...d....e", marks), ("a..", "b.", "c..", ".", "d....", "e"), marks)

    def test_a_mark_is_passed_whole(self):
        # The second sign of the mark doesn't begin another one.
        self.assertEqual(cut("xaba", ("ab", "ba")), ("xab", "a"))

    def test_a_mark_of_eight_signs(self):
        self.assertEqual(cut("a12345678b1234567", ("12345678",)), ("a12345678", "b1234567"))

    def test_marks_of_blanks_and_line_feeds(self):
        self.assertEqual(cut("a b\n\nc\nd", (" ", "\n\n")), ("a ", "b\n\n", "c\nd"))

    def test_great_and_small_letters_differ(self):
        self.assertEqual(cut("aXbxc", ("x",)), ("aXbx", "c"))


class KeptTest(unittest.TestCase):
    def test_a_mark_within_a_kept_text(self):
        self.assertEqual(cut("See e.g. this. End", (".",), ("e.g.",)), ("See e.g. this.", " End"))
        self.assertEqual(cut("3.5 is. 3 .5", (".",), ("3.5",)), ("3.5 is.", " 3 .", "5"))

    def test_a_kept_text_that_begins_like_a_mark(self):
        self.assertEqual(cut("a.. b. c", (".",), ("..",)), ("a.. b.", " c"))
        self.assertEqual(cut(".net. x", (".",), (".net",)), (".net.", " x"))

    def test_a_kept_text_ahead_of_a_mark_at_the_same_place(self):
        self.assertEqual(cut("a.b", (".",), (".",)), ("a.b",))
        self.assertEqual(cut("a--b", ("--",), ("-",)), ("a--b",))
        self.assertEqual(cut("a---b--c", ("---",), ("--",)), ("a---b--c",))

    def test_a_mark_ahead_of_a_kept_text_at_a_later_place(self):
        self.assertEqual(cut("a.b.c", (".",), ("b.",)), ("a.", "b.c"))
        self.assertEqual(cut("xaby", ("xa",), ("ab",)), ("xa", "by"))

    def test_the_longest_kept_text(self):
        for kept in itertools.permutations((".", "..", "...x")):
            self.assertEqual(cut("a...x!b..!c...", ("x", "!"), kept), ("a...x!", "b..!", "c..."), kept)

    def test_the_shorter_kept_text_would_end_otherwise(self):
        for kept in itertools.permutations(("a", "ab.")):
            self.assertEqual(cut("ab.c", (".",), kept), ("ab.c",), kept)

    def test_a_kept_text_at_the_end(self):
        self.assertEqual(cut("a. e.g.", (".",), ("e.g.",)), ("a.", " e.g."))
        self.assertEqual(cut("e.g", (".",), ("e.g.",)), ("e.", "g"))


class LevelsTest(unittest.TestCase):
    def test_three_levels(self):
        self.assertEqual(
            cut_up("One two. Three!\n\nFour e.g. five", BOOK_RULES),
            ((("One ", "two."), (" ", "Three!"), ("\n", "\n")), (("Four ", "e.g. ", "five"),)))

    def test_each_level_has_its_own_marks_and_kept_texts(self):
        rules = (((";",), ("a,b",)), ((",",), ("x;",)))
        self.assertEqual(cut_up("a,b;c,x;d", rules), (("a,", "b;"), ("c,", "x;"), ("d",)))

    def test_the_empty_text_by_several(self):
        for count in (1, 2, 3, 4, 5):
            self.assertEqual(cut_up("", (SENTENCES,) * count), ())

    def test_levels_without_marks(self):
        self.assertEqual(cut_up("a.b", (((), ()),)), ("a.b",))
        self.assertEqual(cut_up("a.b", (((), ()), ((".",), ()))), (("a.", "b"),))
        self.assertEqual(cut_up("a.b", (((".",), ()), ((), ()))), (("a.",), ("b",)))
        self.assertEqual(cut_up("ab", (((), ()),) * 5), ((((("ab",),),),),))

    def test_five_levels(self):
        rules = tuple([((mark,), ()) for mark in "54321"])
        inner = ((("a1", "b2"), ("c3",)), (("d4",),))
        self.assertEqual(cut_up("a1b2c3d4e5f", rules), ((inner, ((("e5",),),)), (((("f",),),),)))

    def test_nothing_is_changed_and_the_same_is_told_again(self):
        rules = [[["."], ["e.g."]], [[" "], []]]
        first = cut_up("a b. c", rules)
        self.assertEqual(first, (("a ", "b."), (" ", "c")))
        self.assertEqual(cut_up("a b. c", rules), first)
        self.assertEqual(rules, [[["."], ["e.g."]], [[" "], []]])


class LeavesTest(unittest.TestCase):
    def test_of_one_level(self):
        self.assertEqual(leaves(("a.", "b")), (((0,), "a."), ((1,), "b")))

    def test_paths_of_several_levels(self):
        tree = cut_up("One two. Three!\n\nFour", BOOK_RULES)
        self.assertEqual(leaves(tree), (
            ((0, 0, 0), "One "), ((0, 0, 1), "two."), ((0, 1, 0), " "), ((0, 1, 1), "Three!"),
            ((0, 2, 0), "\n"), ((0, 2, 1), "\n"), ((1, 0, 0), "Four")))

    def test_more_than_ten_places(self):
        tree = tuple("abcdefghijklm")
        self.assertEqual(leaves(tree), tuple([((k,), sign) for k, sign in enumerate("abcdefghijklm")]))

    def test_of_the_empty_tree_and_of_a_text_alone(self):
        self.assertEqual(leaves(()), ())
        self.assertEqual(leaves("a."), (((), "a."),))


class SewnTest(unittest.TestCase):
    def test_of_a_tree(self):
        self.assertEqual(sewn((("One ", "two."), (" ", "Three!"))), "One two. Three!")
        self.assertEqual(sewn(("b", "a", "b")), "bab")

    def test_of_a_tuple_within_it(self):
        tree = cut_up("One two. Three!\n\nFour", BOOK_RULES)
        self.assertEqual(sewn(tree[0]), "One two. Three!\n\n")
        self.assertEqual(sewn(tree[0][1]), " Three!")

    def test_of_a_text_alone(self):
        self.assertEqual(sewn("a b."), "a b.")
        self.assertEqual(sewn(""), "")

    def test_of_the_empty_tree(self):
        self.assertEqual(sewn(()), "")


class TallyTest(unittest.TestCase):
    def test_of_one_level(self):
        self.assertEqual(tally(("a", "b", "c"), ("new", "old", "new")), (((), (("new", 2), ("old", 1))),))

    def test_words_that_come_in_several_tuples(self):
        tree = (("a", "b"), ("c",), ("d", "e", "f"))
        words = ("x", "y", "x", "z", "x", "z")
        self.assertEqual(tally(tree, words), (
            ((), (("x", 3), ("y", 1), ("z", 2))),
            ((0,), (("x", 1), ("y", 1))),
            ((1,), (("x", 1),)),
            ((2,), (("x", 1), ("z", 2)))))

    def test_paths_rise(self):
        tree = ((("a",), ("b", "c")), (("d",),))
        self.assertEqual(tally(tree, ("p", "q", "q", "p")), (
            ((), (("p", 2), ("q", 2))),
            ((0,), (("p", 1), ("q", 2))),
            ((0, 0), (("p", 1),)),
            ((0, 1), (("q", 2),)),
            ((1,), (("p", 1),)),
            ((1, 0), (("p", 1),))))

    def test_more_than_ten_tuples(self):
        told = tally((("a",),) * 12, ("w",) * 12)
        self.assertEqual([path for path, counts in told], [()] + [(k,) for k in range(12)])
        self.assertEqual(told[0], ((), (("w", 12),)))

    def test_words_as_python_sorts_them(self):
        words = ("b", "a", "B", "", "10", "9", "a b", "~")
        expected = tuple([(word, 1) for word in ("", "10", "9", "B", "a", "a b", "b", "~")])
        self.assertEqual(tally(tuple("12345678"), words), (((), expected),))

    def test_the_same_text_with_unlike_words(self):
        self.assertEqual(tally(("a", "a"), ("x", "y")), (((), (("x", 1), ("y", 1))),))

    def test_of_the_empty_tree_and_of_a_text_alone(self):
        self.assertEqual(tally((), ()), (((), ()),))
        self.assertEqual(tally("a", ("x",)), ())

    def test_of_a_cut_text(self):
        tree = cut_up("One two. Three!\n\nFour", BOOK_RULES)
        words = tuple([str(len(text)) for path, text in leaves(tree)])
        told = tally(tree, words)
        self.assertEqual(told[0], ((), (("1", 3), ("4", 3), ("6", 1))))
        self.assertEqual(told[3], ((0, 1), (("1", 1), ("6", 1))))
        self.assertEqual(tally(tree, words), told)


def slow_pieces(text, level):
    # Written once more, straight from the document's words, to hold the program against.
    marks, kept = level
    pieces = [""]
    while text:
        passed = sorted([one for one in kept if text[:len(one)] == one], key=len)
        ended = sorted([one for one in marks if text[:len(one)] == one], key=len)
        here = (passed or ended or [text[0]])[-1]
        pieces[-1] += here
        text = text[len(here):]
        if ended and not passed:
            pieces.append("")
    return tuple([piece for piece in pieces if piece])


class CutAndSewnTest(unittest.TestCase):
    levels = (
        ((".",), ()), (("a",), (".a",)), (("..", "."), ("a.",)), ((".", "a", "a."), (".a", "..")),
        ((), ()), ((), (".",)), ((" ", "\n"), ()), (("aa", "a."), ("a", "aaa")))

    def texts(self):
        for length in range(6):
            for signs in itertools.product("a. \n", repeat=length):
                yield "".join(signs)

    def check(self, text, rules):
        tree = cut_up(text, rules)
        self.assertEqual(sewn(tree), text, (text, rules))
        for path, leaf in leaves(tree):
            self.assertNotEqual(leaf, "", (text, rules))
            self.assertEqual(len(path), len(rules), (text, rules))
        return tree

    def test_by_one_level(self):
        for text in self.texts():
            for level in self.levels:
                self.assertEqual(self.check(text, (level,)), slow_pieces(text, level), (text, level))

    def test_by_two_levels(self):
        for text in self.texts():
            for first, second in itertools.permutations(self.levels[:5], 2):
                tree = self.check(text, (first, second))
                pieces = slow_pieces(text, first)
                self.assertEqual(tree, tuple([slow_pieces(piece, second) for piece in pieces]), (text, first, second))

    def test_by_five_levels(self):
        for text in ("", "a", "..a a.\n" * 20, "a.b.c ..a.\n\na aa" * 20, "no mark"):
            for rules in itertools.islice(itertools.permutations(self.levels, 5), 0, None, 101):
                self.check(text, rules)

    def test_long_texts(self):
        for level in self.levels:
            self.check("aa. a..\n.a " * 2000, (level,))


if __name__ == "__main__":
    unittest.main()
