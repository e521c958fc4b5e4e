import unittest

from tests.samples import P1, P2, P3, any_values
from tests.test_trails import AGAIN, STEPS
from whatleaves.errors import NoRecord
from whatleaves.growth import grown, grows, growth
from whatleaves.lengths import longest
from whatleaves.plays import play
from whatleaves.reader import read_program
from whatleaves.records import Record

ONE, TWO, THREE = [read_program(text) for text in (P1, P2, P3)]
F = ("f", (), None)
FB = ("f", (), "b")
M = ("m", (), None)
MB = ("m", (), "b")
CLASSES = "class a error\nclass b error\nclass c error\n"
# Rows of P3: f lets c leave; f lets a leave with one call of itself, and with two.
ROWS = ((M, ()), (MB, ()), (FB, (0,)), (FB, (1, (1,), (2,))), (FB, (1, (1,), (3,))), (F, (1, (0,), (4,))))


class TestGrown(unittest.TestCase):

    def test_rows(self):
        record = Record(*ROWS)
        found = grown(record=record, inner=3, outer=4)
        self.assertEqual(found, Record(*ROWS[:5], (FB, (1, (1,), (4,))), (F, (1, (0,), (5,)))))
        self.assertEqual(play(THREE, record).lengths, (1, 1, 1, 3, 5, 7))
        self.assertEqual(play(THREE, found).lengths, (1, 1, 1, 3, 5, 7, 9))

    def test_indexes(self):
        case = ("g", (), None)
        rows = [(case, tuple([(i,) for i in range(8)]) + (0, 5, "a", "returns")) for k in range(6)]
        found = grown(Record(*rows), 1, 3)
        self.assertEqual(len(found), 8)
        self.assertEqual(found.rows[:4], tuple(rows[:4]))
        ends = (0, 5, "a", "returns")
        self.assertEqual(found.rows[4], (case, ((0,), (3,), (4,), (5,), (6,), (7,), (8,), (9,)) + ends))
        self.assertEqual(found.rows[5], found.rows[4])
        self.assertEqual(found.rows[6], (case, ((0,), (1,), (2,), (5,), (6,), (7,), (8,), (9,)) + ends))
        self.assertEqual(found.rows[7], found.rows[6])

    def test_neighbours_and_ends(self):
        rows = [(F, ((k,),)) for k in range(3)]
        self.assertEqual(grown(Record(*rows), 0, 1).rows, ((F, ((0,),)), (F, ((1,),)), (F, ((2,),)), (F, ((3,),))))
        self.assertEqual(grown(Record(*rows), 0, 2).rows, ((F, ((0,),)), (F, ((1,),)), (F, ((2,),)), (F, ((3,),)), (F, (
            (4,),))))
        self.assertEqual(grown(Record(*rows), 1, 2).rows, ((F, ((0,),)), (F, ((1,),)), (F, ((2,),)), (F, ((3,),))))

    def test_nothing_is_changed(self):
        record = Record(*ROWS)
        grown(record, 3, 4)
        self.assertEqual(record, Record(*ROWS))


class TestGrows(unittest.TestCase):

    def test_example(self):
        self.assertTrue(grows(program=THREE, record=Record(*ROWS), inner=3, outer=4))

    def test_again_and_again(self):
        record, inner, outer = Record(*ROWS), 3, 4
        lengths = []
        for _ in range(6):
            self.assertTrue(grows(THREE, record, inner, outer))
            lengths.append(play(THREE, record).lengths[-1])
            record, inner, outer = grown(record, inner, outer), outer, 2 * outer - inner
        self.assertEqual(lengths, [7, 9, 11, 13, 15, 17])

    def test_all_rows(self):
        found = [(i, k) for i in range(-8, 9) for k in range(-8, 9) if grows(THREE, Record(*ROWS), i, k)]
        self.assertEqual(found, [(3, 4)])
        for i, k in ((0, 10 ** 99), (-10 ** 99, 4), (10 ** 99, 10 ** 99 + 1), (3, -2)):
            self.assertFalse(grows(THREE, Record(*ROWS), i, k))

    def test_records_that_play_refuses(self):
        for k in range(len(ROWS)):
            rows = list(ROWS)
            rows[k] = (rows[k][0], rows[k][1] + (0,))
            self.assertFalse(grows(THREE, Record(*rows), 3, 4))
        self.assertFalse(grows(ONE, Record(*ROWS), 3, 4))

    def test_last_row(self):
        self.assertTrue(grows(THREE, Record(*ROWS[:5]), 3, 4))
        # The last row has neither of the rows in its front.
        self.assertFalse(grows(THREE, Record(*ROWS, (F, (0,))), 3, 4))
        program = read_program(P3 + "\ndef g\n  loop\n    try\n      call f\n    except error\n      pass")
        self.assertFalse(grows(program, Record(*ROWS, (("g", (), None), (1, (5,), 0))), 3, 4))

    def test_other_outcomes(self):
        rows = ((F, (0,)), (F, (1, (0,))), (F, (1, (1,))))
        played = play(STEPS, Record(*rows))
        self.assertEqual((played.outcomes, played.lengths), (("a", "b", "c"), (1, 2, 3)))
        self.assertEqual([grows(STEPS, Record(*rows), i, k) for i, k in ((0, 1), (0, 2), (1, 2))], [False] * 3)

    def test_other_cases(self):
        program = read_program(CLASSES + "def g\n  raise a\ndef f\n  try\n    call g\n  except a\n    raise a")
        record = Record((("g", (), None), ()), (F, ((0,),)))
        self.assertEqual(play(program, record).lengths, (1, 2))
        self.assertFalse(grows(program, record, 0, 1))
        self.assertTrue(grows(AGAIN, Record((F, (0,)), (F, (1, (0,)))), 0, 1))

    def test_open_and_not_open(self):
        program = read_program(CLASSES + "def f\n  either\n    raise b from none\n  or\n    raise b\n  or\n    try\n"
            "      call f\n    except b\n      raise b\n  or\n    try\n      call f\n    except b\n      raise b from none")
        rows = ((FB, (0,)), (FB, (1,)), (FB, (2, (0,))), (FB, (2, (1,))), (FB, (3, (1,))))
        played = play(program, Record(*rows))
        self.assertEqual((played.lengths, played.opens), ((1, 1, 2, 2, 1), (False, True, False, True, False)))
        for last in (2, 3):
            record = Record(*rows[:last + 1])
            self.assertEqual([i for i in range(last) if grows(program, record, i, last)], [last - 2])

    def test_a_return(self):
        program = read_program(CLASSES + "def f\n  either\n    return\n  or\n    call f\n    raise a")
        record = Record((F, (0,)), (F, (1, (0,))), (F, (0,)), (F, (1, (2,))))
        self.assertEqual(play(program, record).outcomes, ("returns", "a", "returns", "a"))
        self.assertFalse(any(grows(program, record, i, k) for i in range(4) for k in range(4)))

    def test_nothing_is_longer(self):
        program = read_program(CLASSES + "def f\n  either\n    raise a\n  or\n    call f")
        record = Record((F, (0,)), (F, (1, (0,))))
        self.assertEqual(play(program, record).lengths, (1, 1))
        self.assertFalse(grows(program, record, 0, 1))
        self.assertIsNone(growth(program, F))

    def test_any_integers(self):
        numbers = [x for x in any_values() if isinstance(x, int) and not isinstance(x, bool)]
        self.assertFalse(any(grows(THREE, Record(*ROWS), i, k) for i in numbers for k in numbers))


class TestGrowth(unittest.TestCase):

    def shown(self, program, case=F):
        found = growth(program=program, case=case)
        if longest(program, case) is not None:
            self.assertIsNone(found)
            return False
        record, inner, outer = found
        self.assertIsInstance(found, tuple)
        self.assertEqual(record.rows[-1][0], case)
        lengths = []
        for _ in range(4):
            self.assertTrue(grows(program, record, inner, outer))
            lengths.append(play(program, record).lengths[-1])
            record, inner, outer = grown(record, inner, outer), outer, 2 * outer - inner
        self.assertEqual(lengths, sorted(set(lengths)))
        return True

    def test_programs(self):
        self.assertEqual([self.shown(program) for program in (TWO, THREE, STEPS, AGAIN)], [False, True, False, True])
        self.assertFalse(self.shown(ONE, ("f", ("p",), None)))

    def test_blocks(self):
        growing = (
            "try\n  call f\nexcept error\n  raise a",
            "try\n  call f\nfinally\n  raise a",
            "try\n  call f\nexcept a as n\n  try\n    raise b\n  except b\n    raise a from n",
            "try\n  call f\nexcept error\n  call f",
            "with g f\n  raise b",
            "with g g\n  try\n    call f\n  except a\n    call h\n    raise a",
            "loop\n  try\n    call f\n  except error\n    try\n      call h\n    except b\n      again",
            "try\n  raise c\nexcept c\n  try\n    call f\n  except error\n    raise b",
            "try\n  try\n    call f\n  except c\n    raise a\nexcept a\n  raise c",
            "handling\n  either\n    raise a\n  or\n    try\n      call f\n    except a\n      raise a\nelse\n  try\n"
            "    raise b\n  except b\n    call f",
        )
        for block in growing:
            rows = "\n".join("    " + row for row in block.split("\n"))
            program = read_program(CLASSES + "def g\n  pass\ndef h\n  either\n    raise b\n  or\n    pass\ndef f\n"
                "  either\n    raise a\n  or\n" + rows)
            self.assertTrue(self.shown(program), block)

    def test_blocks_that_do_not_grow(self):
        for block in ("call f", "try\n  call f\nexcept error\n  again", "try\n  call f\nexcept error\n  raise a from none",
                "try\n  call f\nexcept error as n\n  try\n    raise b\n  except b\n    again n",
                "try\n  call f\nfinally\n  return", "try\n  call f\nexcept a\n  raise b",
                "with g g quiet error\n  try\n    call f\n  except error\n    raise a",
                "try\n  call f\nexcept error as n\n  handling\n    raise c from none\n  else\n    raise c"):
            rows = "\n".join("    " + row for row in block.split("\n"))
            program = read_program(CLASSES + "def g\n  pass\ndef f\n  either\n    raise a\n  or\n" + rows)
            self.assertFalse(self.shown(program), block)

    def test_only_another_case_grows(self):
        # Nothing grows where nothing is handled, nor while b is; the trails grow in calls while a is handled.
        program = read_program(CLASSES + "def f\n  either\n    raise b\n  or\n    try\n      raise a\n    except a\n"
            "      call g\ndef g\n  either\n    raise a\n  or\n    try\n      call g\n    except a\n      raise a")
        self.assertTrue(self.shown(program))
        record, inner, outer = growth(program, F)
        self.assertEqual(record.rows[outer][0], ("g", (), "a"))
        self.assertEqual(record.rows[inner][0], ("g", (), "a"))

    def test_functions_that_call_one_another(self):
        program = read_program(CLASSES + "def f\n  either\n    raise c\n  or\n    try\n      call g\n    except b\n"
            "      raise a\ndef g\n  try\n    call h\n  except c\n    raise b\n  except a\n    raise b\ndef h\n  call f")
        self.assertTrue(self.shown(program))
        self.assertTrue(self.shown(program, ("h", (), None)))

    def test_an_error_that_grows_is_taken(self):
        program = read_program(CLASSES + "def g\n  either\n    raise a\n  or\n    try\n      call g\n    except a\n"
            "      raise a\ndef f\n  try\n    call g\n  except a\n    raise b from none")
        self.assertFalse(self.shown(program))
        self.assertTrue(self.shown(program, ("g", (), None)))

    def test_functions_in_the_place_of_callbacks(self):
        program = read_program(CLASSES + "def g\n  raise a\ndef f p\n  either\n    call p\n  or\n    try\n      call f p\n"
            "    except a\n      call p")
        self.assertTrue(self.shown(program, ("f", ("g",), None)))
        self.assertFalse(self.shown(program, ("f", ("p",), None)))

    def test_refused(self):
        record, inner, outer = growth(THREE, F)
        with self.assertRaises(NoRecord):
            play(TWO, record)
        self.assertFalse(grows(TWO, record, inner, outer))


if __name__ == "__main__":
    unittest.main()
