import unittest

from tests.samples import any_values, told
from whatleaves.errors import NoRecord
from whatleaves.records import Record

CASE = ("f", ("p",), None)
ROW = (CASE, (1, "a", (0,)))


class TestRecords(unittest.TestCase):

    def test_rows(self):
        record = Record(ROW, (("", (), ""), ()))
        self.assertEqual(record.rows, (ROW, (("", (), ""), ())))
        self.assertEqual(len(record), 2)
        self.assertEqual((record[0], record[1]), record.rows)

    def test_made(self):
        self.assertEqual(Record.made([ROW]), Record(ROW))
        self.assertEqual(Record.made(rows=(ROW, ROW)).rows, (ROW, ROW))
        self.assertEqual(told(NoRecord, Record.made, [ROW, None]), (1,))

    def test_no_rows(self):
        self.assertEqual(told(NoRecord, Record), (0,))
        self.assertEqual(told(NoRecord, Record.made, []), (0,))

    def test_equal(self):
        self.assertTrue(Record(ROW) == Record(ROW))
        self.assertFalse(Record(ROW) == Record(ROW, ROW))
        self.assertTrue(Record(ROW) != Record((CASE, (0, "a", (0,)))))
        self.assertEqual([x for x in any_values() if Record((("f", (), None), ())) == x], [Record((("f", (), None),
            ()))])

    def test_any_values(self):
        for x in any_values():
            string = isinstance(x, str)
            number = isinstance(x, int) and not isinstance(x, bool) and x >= 0
            strings = isinstance(x, tuple) and all(isinstance(thing, str) for thing in x)
            choices = strings or (isinstance(x, tuple) and x == ("a", 1))
            for row, right in (
                    (x, False), ((x, ()), False), ((CASE, x), choices), (((x, (), None), ()), string),
                    ((("f", x, None), ()), strings), ((("f", (x,), None), ()), string),
                    ((("f", (), x), ()), string or x is None), ((CASE, (x,)), string or number),
                    ((CASE, ((x,),)), number), ((CASE, (0, "", x)), string or number)):
                self.assertEqual(told(NoRecord, Record, ROW, row, None), (2,) if right else (1,), repr(row)[:80])

    def test_forms(self):
        for row in ((), (CASE,), (CASE, (), ()), [CASE, ()], (CASE, []), (list(CASE), ()), (("f", ["p"], None), ()),
                    (("f", ("p",)), ()), (("f", ("p",), None, None), ()), (CASE, ((),)), (CASE, ((1, 2),)), (CASE,
                    ([1],)),
                    (CASE, (-1,)), (CASE, ((-1,),)), (CASE, (True,)), (CASE, ((False,),)), (CASE, (None,)), (CASE,
                    (("a",),)),
                    (CASE, (((0,),),)), (("f", ("p",), ("a",)), ())):
            self.assertEqual(told(NoRecord, Record, row), (0,), row)


if __name__ == "__main__":
    unittest.main()
