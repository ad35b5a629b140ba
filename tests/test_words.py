import itertools
import re
import unittest

from twainkeep.words import cores_of, hits, size_of, words_of

WORDS = (("dog", "hund"), ("cat", "katze"), ("house", "haus"), ("r2", "r2"))


class WordsOfTest(unittest.TestCase):
    def test_at_begin_and_end(self):
        self.assertEqual(words_of("one"), ("one",))
        self.assertEqual(words_of("one two"), ("one", "two"))
        self.assertEqual(words_of("  one two  "), ("one", "two"))
        self.assertEqual(words_of("(one) two!"), ("one", "two"))
        self.assertEqual(words_of("a.b"), ("a", "b"))

    def test_parted_by_blanks_line_feeds_and_other_signs(self):
        self.assertEqual(words_of("a b\nc,d-e_f'g\"h\\i"), tuple("abcdefghi"))
        self.assertEqual(words_of("a \n\n .. b"), ("a", "b"))

    def test_without_words(self):
        self.assertEqual(words_of(""), ())
        self.assertEqual(words_of(" \n "), ())
        self.assertEqual(words_of("-- .. !?"), ())

    def test_letters_and_figures_make_one_word(self):
        self.assertEqual(words_of("R2D2 4you A1"), ("R2D2", "4you", "A1"))
        self.assertEqual(words_of("AZaz09"), ("AZaz09",))

    def test_in_order_and_as_often_as_they_stand(self):
        self.assertEqual(words_of("b a b"), ("b", "a", "b"))

    def test_each_sign_alone(self):
        for code in [10] + list(range(32, 127)):
            sign = chr(code)
            expected = ("x" + sign + "y",) if re.fullmatch("[A-Za-z0-9]", sign) else ("x", "y")
            self.assertEqual(words_of("x" + sign + "y"), expected, repr(sign))

    def test_many_short_texts(self):
        for signs in itertools.product("aZ5 \n-", repeat=5):
            text = "".join(signs)
            self.assertEqual(words_of(text), tuple(re.findall("[A-Za-z0-9]+", text)), repr(text))


class CoresOfTest(unittest.TestCase):
    def test_small_letters(self):
        self.assertEqual(cores_of("The DOG, r2D2!"), ("the", "dog", "r2d2"))
        self.assertEqual(cores_of("A Z a z 0 9"), ("a", "z", "a", "z", "0", "9"))

    def test_figures_stay(self):
        self.assertEqual(cores_of("2026 B52"), ("2026", "b52"))

    def test_without_words(self):
        self.assertEqual(cores_of(""), ())
        self.assertEqual(cores_of("!\n"), ())


class SizeOfTest(unittest.TestCase):
    def test_blanks_and_line_feeds_do_not_count(self):
        self.assertEqual(size_of("a b\nc"), 3)
        self.assertEqual(size_of("  \n\n  "), 0)
        self.assertEqual(size_of("\na \n b "), 2)

    def test_other_signs_count(self):
        self.assertEqual(size_of("ab, c!"), 5)
        self.assertEqual(size_of("~\"\\-_"), 5)

    def test_of_the_empty_text(self):
        self.assertEqual(size_of(""), 0)
        self.assertIs(type(size_of("")), int)

    def test_many_short_texts(self):
        for signs in itertools.product("a. \n", repeat=4):
            text = "".join(signs)
            self.assertEqual(size_of(text), sum(1 for sign in text if sign in "a."), repr(text))


class HitsTest(unittest.TestCase):
    def test_one_and_several(self):
        self.assertEqual(hits(("the dog",), ("der hund",), WORDS), 1)
        self.assertEqual(hits(("the dog", "a cat"), ("hund und katze",), WORDS), 2)
        self.assertEqual(hits(("dog cat",), ("ein hund", "im haus", "katze"), WORDS), 2)

    def test_words_in_great_letters(self):
        self.assertEqual(hits(("DOG",), ("Hund!",), WORDS), 1)
        self.assertEqual(hits(("R2-R2",), ("r2",), WORDS), 1)

    def test_a_core_that_comes_more_than_once(self):
        self.assertEqual(hits(("dog dog", "Dog"), ("hund", "hund hund"), WORDS), 1)

    def test_the_one_there_and_the_other_not(self):
        self.assertEqual(hits(("dog",), ("katze",), WORDS), 0)
        self.assertEqual(hits(("dog",), (), WORDS), 0)
        self.assertEqual(hits((), ("hund",), WORDS), 0)

    def test_sides_are_not_exchanged(self):
        self.assertEqual(hits(("hund",), ("dog",), WORDS), 0)

    def test_whole_words_alone(self):
        self.assertEqual(hits(("dogs",), ("hund",), WORDS), 0)
        self.assertEqual(hits(("do", "g"), ("hund",), WORDS), 0)

    def test_pairs_that_share_a_core_count_each(self):
        words = (("dog", "hund"), ("dog", "koeter"), ("hound", "hund"))
        self.assertEqual(hits(("dog",), ("hund koeter",), words), 2)
        self.assertEqual(hits(("dog hound",), ("hund koeter",), words), 3)

    def test_of_no_texts_and_of_no_words(self):
        self.assertEqual(hits((), (), WORDS), 0)
        self.assertEqual(hits(("",), ("",), WORDS), 0)
        self.assertEqual(hits(("dog",), ("hund",), ()), 0)

    def test_a_whole_number_and_the_same_again(self):
        self.assertIs(type(hits(("dog",), ("hund",), WORDS)), int)
        self.assertEqual(hits(("dog",), ("hund",), WORDS), hits(("dog",), ("hund",), WORDS))


if __name__ == "__main__":
    unittest.main()
