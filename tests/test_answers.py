import unittest

from whatleaves.acts import Acts
from whatleaves.answers import clause_text, demands_text, kind_text, length_text, listed, trail_text, wraps_text
from whatleaves.demands import Demands


class TestAnswers(unittest.TestCase):

    def test_lengths(self):
        self.assertEqual([length_text(n) for n in (0, 7, 10 ** 63, 10 ** 64, 10 ** 64 + 5, 3 * 10 ** 128, None)], ["0", "7",
            "1" + "0" * 63, "1" + "0" * 64, "1" + "0" * 63 + "5", "3" + "0" * 128, "endless"])
        # Python refuses to write numbers of more than 4,300 digits.
        self.assertEqual(length_text(10 ** 20000 + 12), "1" + "0" * 19998 + "12")
        self.assertEqual(length_text(10 ** 9000 - 1), "9" * 9000)

    def test_lists(self):
        self.assertEqual([listed([]), listed(["a"]), listed(["a", "b"])], ["nothing", "a", "a b"])
        self.assertEqual([wraps_text(None), wraps_text(()), wraps_text(("f", "g"))], ["none", "wraps", "wraps f g"])

    def test_words(self):
        self.assertEqual((kind_text(("a", "b")), trail_text(("a", "b", "a")), clause_text(("f", 10, 0))), ("a+b", "a.b.a",
            "f.10.0"))

    def test_demands(self):
        one, two, three = ("p", None, "a"), ("p", "a", "returns"), ("q", "b", "c")
        self.assertEqual([demands_text(demands) for demands in (Demands.never(), Demands.always(), Demands(Acts(one)), Demands(
            Acts(three, two), Acts(one)))], ["never", "always", "p:-:a", "p:-:a / p:a:returns q:b:c"])


if __name__ == "__main__":
    unittest.main()
