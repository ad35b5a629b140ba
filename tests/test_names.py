import itertools
import string
import unittest

from twainkeep.names import is_name, name_at, new_name


class IsNameTest(unittest.TestCase):
    def test_names(self):
        for name in ("a", "z", "ab", "abcdefgh", "zzzzzzzz", "name"):
            self.assertIs(is_name(name), True, name)

    def test_each_sign_alone(self):
        for code in range(0, 512):
            self.assertIs(is_name(chr(code)), chr(code) in string.ascii_lowercase, code)

    def test_texts_that_are_no_names(self):
        wrong = ("", "abcdefghi", "A", "aB", "Ab", "a1", "1", "a b", " a", "a ", "a\n", "\na", "\n", " ", "a-b", "-")
        for text in wrong:
            self.assertIs(is_name(text), False, repr(text))

    def test_letters_of_other_alphabets(self):
        for text in ("\u00e4", "a\u00df", "\u03b1", "\uff41"):
            self.assertIs(is_name(text), False, repr(text))

    def test_things_that_are_no_texts(self):
        things = (None, True, False, 0, 1, -5, 1.5, b"a", [], ["a"], (), ("a",), ("a", "b"), {}, {"a": 1}, {"a"},
                  object(), str, is_name)
        for thing in things:
            self.assertIs(is_name(thing), False, repr(thing))


class NameAtTest(unittest.TestCase):
    def test_the_edges(self):
        told = {0: "a", 1: "b", 25: "z", 26: "aa", 27: "ab", 51: "az", 52: "ba", 701: "zz", 702: "aaa", 703: "aab",
                18277: "zzz", 18278: "aaaa", 475253: "zzzz", 475254: "aaaaa"}
        for k, name in told.items():
            self.assertEqual(name_at(k), name, k)

    def test_all_names_by_length_and_then_as_they_rise(self):
        k = 0
        for length in (1, 2, 3):
            for letters in itertools.product(string.ascii_lowercase, repeat=length):
                self.assertEqual(name_at(k), "".join(letters))
                k += 1

    def test_they_are_names(self):
        for k in range(0, 20000, 37):
            self.assertIs(is_name(name_at(k)), True, k)


class NewNameTest(unittest.TestCase):
    def test_of_no_names(self):
        self.assertEqual(new_name(()), "a")

    def test_the_next(self):
        self.assertEqual(new_name(("a",)), "b")
        self.assertEqual(new_name(("a", "b", "c")), "d")

    def test_a_gap(self):
        self.assertEqual(new_name(("a", "c")), "b")
        self.assertEqual(new_name(("b", "c")), "a")
        self.assertEqual(new_name(("a", "b", "d", "f")), "c")

    def test_in_any_order(self):
        for names in itertools.permutations(("a", "b", "d", "aa")):
            self.assertEqual(new_name(names), "c", names)

    def test_names_of_another_kind_do_not_count(self):
        self.assertEqual(new_name(("zebra", "a", "aa")), "b")
        self.assertEqual(new_name(("ab", "zz")), "a")

    def test_behind_z_and_zz(self):
        letters = tuple(string.ascii_lowercase)
        self.assertEqual(new_name(letters), "aa")
        self.assertEqual(new_name(("aa",) + letters), "ab")
        twos = tuple(a + b for a in letters for b in letters)
        self.assertEqual(new_name(twos + letters), "aaa")
        self.assertEqual(new_name(twos[:300] + twos[301:] + letters), twos[300])

    def test_nothing_is_changed(self):
        names = ["b", "a"]
        self.assertEqual(new_name(names), "c")
        self.assertEqual(new_name(names), "c")
        self.assertEqual(names, ["b", "a"])


if __name__ == "__main__":
    unittest.main()
