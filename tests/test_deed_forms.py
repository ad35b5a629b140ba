import unittest

from helper import at, places_in, put_at, strange_things
from twainkeep.deeds import is_deed

LAST = 10 ** 12
EIGHT = ("a", "b", "c", "d", "e", "f", "g", "h")
OTHER_EIGHT = ("i", "j", "k", "l", "m", "n", "o", "p")

GOOD = (
    ("put", 3, 0, "", "a", "One."), ("put", 3, 1, "b", "abcdefgh", ""), ("take", 3, "a"), ("part", 3, "a", 1, "b"),
    ("join", 3, "a", "b"), ("move", 3, "a", ""), ("move", 3, "a", "b"), ("change", 3, "a", "x y\n"),
    ("word", 3, "a", 0, "Word9"), ("link", 3, ("a",), ("b",)), ("link", 3, ("c", "a"), ("d", "b")),
    ("loose", 3, "a"), ("step", 3, "a"), ("alone", 3, "a"), ("lack", 3, "a"))

# The places of names, of numbers and of texts in each word's deeds.
NAMES = {"put": (4,), "take": (2,), "part": (2, 4), "join": (2, 3), "move": (2,), "change": (2,), "word": (2,),
         "link": (),
         "loose": (2,), "step": (2,), "alone": (2,), "lack": (2,)}
BEHINDS = {"put": (3,), "move": (3,)}
NUMBERS = {"part": (1, 3), "word": (1, 3)}
TEXTS = {"put": (5,), "change": (3,)}


class IsDeedTest(unittest.TestCase):
    def check(self, expected, *things):
        for thing in things:
            self.assertIs(is_deed(thing), expected, repr(thing))

    def each_at(self, places, default=()):
        for deed in GOOD:
            for place in places.get(deed[0], default):
                yield deed, place

    def test_each_form(self):
        self.assertEqual(len({deed[0] for deed in GOOD}), 12)
        self.check(True, *GOOD)

    def test_too_few_or_too_many_things(self):
        for deed in GOOD:
            for count in range(len(deed)):
                self.check(False, deed[:count])
            self.check(False, deed + ("a",), deed + ("",), deed + (1,), deed + ((),), deed + (None,))

    def test_other_words(self):
        for deed in GOOD:
            for word in ("", "Put", "puts", " put", "put ", "take\n", "LINK", "x", None, 1, True, b"put", ["put"],
                         ("put",), {}):
                self.check(False, (word,) + deed[1:])

    def test_the_word_of_another_form(self):
        self.check(False, ("take", 3, "a", "b"), ("join", 3, "a"), ("join", 3, "a", ""), ("move", 3, "", "a"),
                   ("link", 3, "a", "b"), ("put", 3, "a", 1, "b"), ("part", 3, "a", "b", 1),
                   ("join", 3, ("a",), ("b",)))

    def test_names(self):
        for deed, place in self.each_at(NAMES):
            for name in ("b", "zzzzzzzz"):
                self.check(True, put_at(deed, (place,), name))
            for name in ("", "A", "a1", "abcdefghi", "a b", "a\n", "-", None, 1, 0, True, b"a", ("a",), ["a"]):
                self.check(False, put_at(deed, (place,), name))

    def test_behind_is_a_name_or_empty(self):
        for deed, place in self.each_at(BEHINDS):
            for behind in ("", "b", "abcdefgh"):
                self.check(True, put_at(deed, (place,), behind))
            for behind in (" ", "-", "A", "abcdefghi", "\n", None, 0, False, (), [], b"", ("",)):
                self.check(False, put_at(deed, (place,), behind))

    def test_names_may_be_alike_but_in_a_link(self):
        self.check(True, ("put", 1, 0, "a", "a", ""), ("part", 1, "a", 1, "a"), ("join", 1, "a", "a"),
                   ("move", 1, "a", "a"))

    def test_moments_and_numbers(self):
        for deed, place in self.each_at(NUMBERS, (1,)):
            for number in (0, 1, LAST - 1, LAST):
                self.check(True, put_at(deed, (place,), number))
            for number in (-1, LAST + 1, 10 ** 40, True, False, None, "1", "", 1.0, (1,), [1]):
                self.check(False, put_at(deed, (place,), number))

    def test_sides(self):
        for side in (0, 1):
            self.check(True, ("put", 1, side, "", "a", ""))
        for side in (-1, 2, True, False, None, "0", "left", "", 0.0, (0,), [0]):
            self.check(False, ("put", 1, side, "", "a", ""))

    def test_texts(self):
        signs = "\n" + "".join(chr(code) for code in range(32, 127))
        for deed, place in self.each_at(TEXTS):
            for text in ("", signs, "x" * 20001, "\n\n", " "):
                self.check(True, put_at(deed, (place,), text))
            for text in ("\t", "a\r\n", "\x7f", "\x1f", "\u00e4", "a\u00a0", "\0", "\ud800", None, 1, b"x", ("x",),
                         ["x"]):
                self.check(False, put_at(deed, (place,), text))

    def test_words(self):
        for word in ("a", "Z", "0", "9aZ", "x" * 20, "0" * 20):
            self.check(True, ("word", 1, "a", 0, word))
        for word in ("", "x" * 21, "a b", "a-b", "a_b", " a", "a\n", "\u00e4", "\u0663", "\u00b2", None, 1, True,
                     b"a", ("a",),
                     ["a"]):
            self.check(False, ("word", 1, "a", 0, word))
        for code in range(0, 300):
            plain = chr(code) in "abcdefghijklmnopqrstuvwxyzABCDEFGHIJKLMNOPQRSTUVWXYZ0123456789"
            self.check(plain, ("word", 1, "a", 0, chr(code)), ("word", 1, "a", 0, "x" + chr(code)))

    def test_names_of_a_link(self):
        self.check(True, ("link", 1, EIGHT, OTHER_EIGHT), ("link", 1, EIGHT[::-1], ("x",)),
                   ("link", 1, ("x",), OTHER_EIGHT))
        self.check(False, ("link", 1, (), ("b",)), ("link", 1, ("a",), ()), ("link", 1, (), ()),
                   ("link", 1, EIGHT + ("x",), ("y",)),
                   ("link", 1, ("y",), EIGHT + ("x",)), ("link", 1, ["a"], ("b",)), ("link", 1, ("a",), ["b"]),
                   ("link", 1, "a", ("b",)), ("link", 1, ("a",), "b"), ("link", 1, ("",), ("b",)),
                   ("link", 1, ("a",), ("b", "B")),
                   ("link", 1, ("a", None), ("b",)), ("link", 1, ("a",), (["b"],)), ("link", 1, ("a",), None),
                   ("link", 1, {"a": 1}, ("b",)))

    def test_names_of_a_link_are_all_unlike(self):
        self.check(False, ("link", 1, ("a",), ("a",)), ("link", 1, ("a", "a"), ("b",)),
                   ("link", 1, ("a",), ("b", "c", "b")),
                   ("link", 1, ("a", "b"), ("c", "a")))

    def test_lists(self):
        for deed in GOOD:
            for path in places_in(deed):
                if isinstance(at(deed, path), tuple):
                    self.check(False, put_at(deed, path, list(at(deed, path))))

    def test_things_of_any_kind(self):
        for thing in strange_things():
            self.check(False, thing, (thing,), (thing, 1, "a"), ("take", 1, "a", thing))

    def test_things_of_any_kind_wherever_they_stand(self):
        for deed in GOOD:
            for path in places_in(deed):
                for thing in strange_things():
                    self.assertIn(is_deed(put_at(deed, path, thing)), (True, False))
                    if thing is None or isinstance(thing, (bool, float, list, dict, set, bytes)):
                        self.check(False, put_at(deed, path, thing))

    def test_the_same_again(self):
        thing = ["take", 1, "a"]
        self.check(False, thing, thing)
        self.assertEqual(thing, ["take", 1, "a"])


if __name__ == "__main__":
    unittest.main()
