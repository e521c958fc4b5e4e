import unittest

from tests.samples import any_values
from whatleaves.words import RESERVED, is_number, is_word


class TestWords(unittest.TestCase):

    def test_words(self):
        for x in ("a", "z", "error", "vacant", "abcdefgh", "classes", "it", "returned"):
            self.assertIs(is_word(x), True, x)

    def test_no_words(self):
        for x in ("", "abcdefghi", "A", "aB", "a1", "1", "a_b", "a b", " a", "a ", "a\n", "\t", "a.b", "-", "~",
            "\u00e9", "\u00aa"):
            self.assertIs(is_word(x), False, repr(x))

    def test_reserved(self):
        told = ("pass raise from none again return returns break call handling else either or loop try except as "
                "finally with quiet class def")
        self.assertEqual(sorted(RESERVED), sorted(told.split(" ")))
        for x in told.split(" "):
            self.assertIs(is_word(x), False, x)

    def test_any_values(self):
        words = [x for x in any_values() if is_word(x)]
        self.assertEqual(words, ["a", "f", "p", "error", "vacant", "abcdefgh"])

    def test_numbers(self):
        numbers = [x for x in any_values() if is_number(x)]
        self.assertEqual(numbers, [0, 1, 30, 10 ** 99])
        self.assertNotIn(True, [x for x in numbers if isinstance(x, bool)])


if __name__ == "__main__":
    unittest.main()
