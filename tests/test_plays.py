import unittest

from tests.samples import FORMS, P1, P2, P3, P4, told
from whatleaves.acts import Acts
from whatleaves.errors import NoRecord, TooMany
from whatleaves.plays import Played, play
from whatleaves.reader import read_program
from whatleaves.records import Record

CLASSES = "class a error\nclass b error\nclass c error\nclass aa a\n"


def body(*rows, more=""):
    """A program with a function f p with these rows, and with more functions."""
    return read_program(CLASSES + more + "def f p\n" + "\n".join("  " + row for row in rows))


def done(program, *choices, handled=None, given=("p",)):
    """The outcome of a call of f with these choices, its front, and whether it is open."""
    played = play(program, Record((("f", given, handled), choices)))
    return played.outcomes[0], played.front(0), played.opens[0]


def row(name, *choices, given=(), handled=None):
    return ((name, given, handled), choices)


RETURNS = ("returns", None, None)


class TestStatements(unittest.TestCase):

    def test_simple(self):
        self.assertEqual(done(body("pass")), RETURNS)
        self.assertEqual(done(body("return", "raise a")), RETURNS)
        self.assertEqual(done(body("pass", "raise a", "raise b")), ("a", ("a",), False))
        self.assertEqual(done(body("raise a"), handled="b"), ("a", ("a",), True))
        self.assertEqual(done(body("raise a from none"), handled="b"), ("a", ("a",), False))
        self.assertEqual(done(body("again")), ("vacant", ("vacant",), False))
        self.assertEqual(done(body("again"), handled="b"), ("b", (), True))

    def test_handling(self):
        program = body("handling", "  raise a", "else", "  raise b")
        self.assertEqual(done(program, handled="vacant"), ("a", ("a",), True))
        self.assertEqual(done(program), ("b", ("b",), False))

    def test_either(self):
        program = body("either", "  raise a", "or", "  pass", "or", "  raise c", "raise b")
        self.assertEqual([done(program, k)[0] for k in range(3)], ["a", "b", "c"])
        for choices in ((), (3,), ("a",), ((0,),), (0, 0), ("returns",)):
            self.assertEqual(told(NoRecord, done, program, *choices), (0,), choices)

    def test_loop(self):
        program = body("loop", "  either", "    pass", "  or", "    break", "  or", "    return", "  or",
            "    raise a", "raise b")
        self.assertEqual(done(program, 0)[0], "b")
        self.assertEqual(done(program, 1, 0, 1, 0, 0)[0], "b")
        self.assertEqual(done(program, 1, 0, 1, 1)[0], "b")
        self.assertEqual(done(program, 1, 2), RETURNS)
        self.assertEqual(done(program, 1, 0, 1, 3)[0], "a")
        for choices in ((), (2,), ("a",), ((1,),), (1,), (1, 0), (1, 1, 0), (1, 2, 0), (1, 3, 0), (0, 0)):
            self.assertEqual(told(NoRecord, done, program, *choices), (0,), choices)

    def test_many_rounds(self):
        program = body("loop", "  call p")
        self.assertEqual(done(program, *(1, "returns") * 5000, 0), RETURNS)
        self.assertEqual(done(program, *(1, "returns") * 5000, 1, "b")[0], "b")

    def test_clauses_are_tried_in_order(self):
        program = body("try", "  call p", "except aa c", "  raise aa", "except a as n", "  raise b from n",
            "except error", "  pass")
        self.assertEqual(done(program, "returns"), RETURNS)
        self.assertEqual(done(program, "aa"), ("aa", ("aa", "aa"), False))
        self.assertEqual(done(program, "c"), ("aa", ("aa", "c"), False))
        self.assertEqual(done(program, "a"), ("b", ("b", "a"), False))
        self.assertEqual(done(program, "vacant"), RETURNS)
        self.assertEqual(done(body("try", "  call p", "except aa", "  pass"), "a"), ("a", ("a",), False))

    def test_errors_of_clauses_and_other_are_not_taken(self):
        program = body("try", "  call p", "except a", "  call p", "except b", "  pass", "else", "  call p")
        self.assertEqual(done(program, "a", "b"), ("b", ("b",), False))
        self.assertEqual(done(program, "a", "a")[0], "a")
        self.assertEqual(done(program, "returns", "b")[0], "b")
        self.assertEqual(done(program, "b"), RETURNS)
        self.assertEqual(done(program, "c")[0], "c")

    def test_other_follows_only_an_end(self):
        program = body("loop", "  try", "    either", "      pass", "    or", "      break", "    or", "      return",
                       "  except error", "    pass", "  else", "    raise a", "raise b")
        self.assertEqual([done(program, 1, k)[0] for k in range(3)], ["a", "b", "returns"])

    def test_other_and_clauses_handle_what_they_should(self):
        program = body("try", "  try", "    raise a", "  except a", "    pass", "  else", "    again", "except error",
            "  again")
        self.assertEqual(done(program), RETURNS)
        program = body("try", "  pass", "except a", "  pass", "else", "  again")
        self.assertEqual(done(program)[0], "vacant")
        self.assertEqual(done(program, handled="b"), ("b", (), True))

    def test_last(self):
        program = body("try", "  call p", "finally", "  call p")
        self.assertEqual(done(program, "returns", "returns"), RETURNS)
        self.assertEqual(done(program, "a", "returns"), ("a", ("a",), False))
        self.assertEqual(done(program, "a", "b"), ("b", ("b",), False))
        self.assertEqual(done(program, "returns", "b")[0], "b")

    def test_what_is_handled_in_last(self):
        program = body("try", "  call p", "finally", "  raise b")
        self.assertEqual(done(program, "a"), ("b", ("b", "a"), False))
        self.assertEqual(done(program, "returns"), ("b", ("b",), False))
        self.assertEqual(done(program, "returns", handled="c"), ("b", ("b",), True))
        program = body("try", "  raise a", "except a", "  raise c", "finally", "  raise b")
        self.assertEqual(done(program), ("b", ("b", "c", "a"), False))
        program = body("try", "  raise a", "except a", "  pass", "finally", "  raise b")
        self.assertEqual(done(program), ("b", ("b",), False))

    def test_last_may_drop_what_came_before(self):
        self.assertEqual(done(body("try", "  raise a", "finally", "  return", "raise b")), RETURNS)
        program = body("loop", "  try", "    either", "      raise a", "    or", "      return", "  finally",
            "    break", "raise c")
        self.assertEqual(done(program, 1, 0)[0], "c")
        self.assertEqual(done(program, 1, 1)[0], "c")
        program = body("loop", "  try", "    break", "  finally", "    pass", "raise c")
        self.assertEqual(done(program, 1)[0], "c")
        self.assertEqual(done(body("try", "  return", "finally", "  pass", "raise c")), RETURNS)

    def test_handled_again_behind_a_clause(self):
        program = body("try", "  raise a", "except a", "  try", "    raise b", "  except b", "    pass", "  raise c")
        self.assertEqual(done(program), ("c", ("c", "a"), False))
        program = body("try", "  raise a", "except a", "  pass", "again")
        self.assertEqual(done(program)[0], "vacant")
        self.assertEqual(done(program, handled="b"), ("b", (), True))
        program = body("try", "  raise a", "except a", "  try", "    pass", "  finally", "    pass", "  again")
        self.assertEqual(done(program), ("a", ("a",), False))

    def test_bound_names(self):
        program = body("try", "  raise a", "except a as n", "  try", "    raise b", "  except b", "    raise c from n")
        self.assertEqual(done(program), ("c", ("c", "a"), False))
        program = body("try", "  raise a", "except a as n", "  try", "    raise b", "  except b", "    again n")
        self.assertEqual(done(program), ("a", ("a",), False))
        program = body("try", "  raise a", "except a as n", "  try", "    raise b", "  except b as n",
            "    raise c from n")
        self.assertEqual(done(program), ("c", ("c", "b", "a"), False))
        program = body("try", "  raise a", "except a as n", "  try", "    raise b", "  except b as n", "    pass",
            "  again n")
        self.assertEqual(done(program), ("a", ("a",), False))
        program = body("try", "  again", "except error as n", "  raise c from n")
        self.assertEqual(done(program, handled="b"), ("c", ("c",), True))

    def test_with(self):
        program = body("with p p quiet a", "  call p", "raise c")
        self.assertEqual(done(program, "b"), ("b", ("b",), False))
        self.assertEqual(done(program, "returns", "returns", "returns")[0], "c")
        self.assertEqual(done(program, "returns", "aa", "returns")[0], "c")
        self.assertEqual(done(program, "returns", "b", "returns")[0], "b")
        self.assertEqual(done(program, "returns", "b", "aa")[0], "aa")
        self.assertEqual(done(program, "returns", "returns", "aa")[0], "aa")
        for choices in (("b", "returns"), ("returns",), ("returns", "a"), ("returns", "a", "a", "a"), ("returns", "a",
            1)):
            self.assertEqual(told(NoRecord, done, program, *choices), (0,), choices)

    def test_with_is_left_in_each_case(self):
        program = body("loop", "  with p p", "    either", "      break", "    or", "      return", "raise c")
        self.assertEqual(done(program, 1, "returns", 0, "returns")[0], "c")
        self.assertEqual(done(program, 1, "returns", 1, "returns"), RETURNS)
        self.assertEqual(done(program, 1, "returns", 1, "b")[0], "b")

    def test_what_is_handled_in_a_with(self):
        program = body("with p p", "  call p")
        played = play(program, Record(row("f", "returns", "a", "b", given=("p",), handled="c")))
        self.assertEqual(played.acts, Acts(("p", "c", "returns"), ("p", "c", "a"), ("p", "a", "b")))
        played = play(program, Record(row("f", "returns", "returns", "b", given=("p",))))
        self.assertEqual(played.acts, Acts(("p", None, "returns"), ("p", None, "b")))

    def test_the_same_error_is_not_kept_quiet_if_it_leaves_the_end(self):
        program = body("with p g quiet error", "  raise a", more="def g\n  again\n")
        record = Record(row("g", handled="a"), row("f", "returns", (0,), given=("p",)))
        played = play(program, record)
        self.assertEqual((played.outcomes, played.front(1), played.opens), (("a", "a"), ("a",), (True, False)))

    def test_each_form(self):
        program = read_program(FORMS)
        self.assertEqual(play(program, Record(row("f", given=("p",)))).outcomes, ("returns",))


class TestCalls(unittest.TestCase):

    def test_p1(self):
        program = read_program(P1)
        played = play(program, Record((("f", ("p",), None), ("a", "b"))))
        self.assertIsInstance(played, Played)
        self.assertEqual(played.outcomes, ("c",))
        self.assertEqual(played.acts, Acts(("p", None, "a"), ("p", "a", "b")))
        self.assertEqual((played.front(0), played.lengths, played.opens, played.needed), (("c", "b"), (2,), (False,),
            (0,)))
        self.assertEqual(done(program, "a", "a"), ("a", ("a",), False))
        self.assertEqual(done(program, "b"), ("b", ("b",), False))
        self.assertEqual(done(program, "returns"), RETURNS)
        self.assertEqual(play(program, Record((("f", ("p",), "a"), ("a", "b")))).acts, Acts(("p", "a", "a"), ("p",
            "a", "b")))

    def test_p2(self):
        program = read_program(P2)
        alone = play(program, Record(row("whose")))
        self.assertEqual((alone.outcomes, alone.front(0), alone.opens), (("vacant",), ("vacant",), (False,)))
        played = play(program, Record(row("whose", handled="a"), row("f", (0,))))
        self.assertEqual((played.outcomes, played.lengths, played.opens), (("a", "a"), (0, 1), (True, False)))
        self.assertEqual((played.front(0), played.front(1), played.needed), ((), ("a",), (0, 1)))
        self.assertEqual(told(NoRecord, play, program, Record(row("whose"), row("f", (0,)))), (1,))

    def test_p3(self):
        program = read_program(P3)
        rows = [row("m"), row("m", handled="b"), row("f", 0, handled="b")]
        for _ in range(3):
            rows.append(row("f", 1, (1,), (len(rows) - 1,), handled="b"))
        rows.append(row("f", 1, (0,), (len(rows) - 1,)))
        played = play(program, Record(*rows))
        self.assertEqual(played.front(6), ("a",) * 4 + ("c",) + ("b",) * 4)
        self.assertEqual([played.front(k) for k in range(4)], [("b",), ("b",), ("c",), ("a", "c", "b")])
        self.assertEqual(played.opens, (False, True, True, True, True, True, False))
        self.assertEqual(played.lengths, (1, 1, 1, 3, 5, 7, 9))
        self.assertEqual(played.needed, tuple(range(7)))

    def test_p4(self):
        program = read_program(P4)
        self.assertEqual(done(program, "a"), ("a", ("a",), False))
        self.assertEqual([done(program, name)[0] for name in ("b", "vacant", "returns")], ["returns"] * 3)

    def test_calls_end_with_an_end_or_a_return(self):
        program = body("call g", "raise a", more="def g\n  either\n    return\n  or\n    pass\n")
        for k in (0, 1):
            self.assertEqual(play(program, Record(row("g", k), row("f", (0,), given=("p",)))).outcomes, ("returns",
                "a"))

    def test_callbacks_that_stand_for_other_things(self):
        program = body("call two p p", more="def g\n  raise b\ndef two x y\n  call x\n  call y\n")
        rows = (row("g"), row("two", (0,), given=("g", "g")), row("f", (1,), given=("g",)))
        played = play(program, Record(*rows))
        self.assertEqual((played.outcomes, played.front(2), played.acts), (("b", "b", "b"), ("b",), Acts()))
        rows = (row("two", "returns", "a", given=("w", "w")), row("f", (0,), given=("w",)))
        played = play(program, Record(*rows))
        self.assertEqual((played.outcomes, played.acts), (("a", "a"), Acts(("w", None, "returns"), ("w", None, "a"))))
        wrong = (row("two", "returns", "a", given=("w", "v")), row("f", (0,), given=("w",)))
        self.assertEqual(told(NoRecord, play, program, Record(*wrong)), (1,))
        rows = (row("g", handled="c"), row("two", "returns", (0,), given=("p", "g"), handled="c"))
        self.assertEqual(play(program, Record(*rows)).outcomes, ("b", "b"))
        self.assertEqual(told(NoRecord, play, program, Record(row("two", "returns", "b", given=("p", "g")))), (0,))

    def test_with_of_functions(self):
        program = body("with g p", "  raise a", more="def g\n  handling\n    raise b\n  else\n    pass\n")
        rows = (row("g"), row("g", handled="a"), row("f", (0,), (1,), given=("g",)))
        played = play(program, Record(*rows))
        self.assertEqual((played.outcomes, played.front(2)), (("returns", "b", "b"), ("b", "a")))
        self.assertEqual(told(NoRecord, play, program, Record(row("g"), row("f", (0,), (0,), given=("g",)))), (1,))

    def test_a_call_while_an_error_is_handled(self):
        more = "def g\n  raise b\n"
        program = body("try", "  raise a", "except a", "  call g", more=more)
        played = play(program, Record(row("g", handled="a"), row("f", (0,), given=("p",), handled="c")))
        self.assertEqual((played.front(1), played.opens), (("b", "a"), (True, True)))
        for wrong in (None, "c", "error"):
            self.assertEqual(told(NoRecord, play, program, Record(row("g", handled=wrong), row("f", (0,), given=("p",
                )))), (1,))
        closed = body("try", "  raise a from none", "except a", "  call g", more="def g\n  raise b from none\n")
        played = play(closed, Record(row("g", handled="a"), row("f", (0,), given=("p",), handled="c")))
        self.assertEqual((played.front(1), played.opens), (("b",), (False, False)))

    def test_errors_of_outside_callbacks_have_no_cause(self):
        program = body("call p")
        self.assertEqual(done(program, "b", handled="a"), ("b", ("b",), False))

    def test_recursion_needs_rows(self):
        program = body("either", "  call f p", "or", "  raise a")
        rows = [row("f", 1, given=("p",))]
        rows += [row("f", 0, (k,), given=("p",)) for k in range(2000)]
        self.assertEqual(play(program, Record(*rows)).front(2000), ("a",))
        self.assertEqual(told(NoRecord, play, program, Record(row("f", 0, (0,), given=("p",)))), (0,))
        self.assertEqual(told(NoRecord, play, program, Record(rows[0], row("f", 0, (1,), given=("p",)))), (1,))
        self.assertEqual(told(NoRecord, play, program, Record(rows[0], row("f", 0, (2,), given=("p",)), rows[0])), (1,))


class TestPlayed(unittest.TestCase):

    DOUBLE = (
        "class a error\ndef f\n  raise a\ndef d\n"
        "  try\n    either\n      call f\n    or\n      call d\n"
        "  except a\n    either\n      call f\n    or\n      call d")

    def doubled(self, many):
        """A record with two rows for each doubling: for nothing handled, and for an error of class a."""
        rows = [row("f"), row("f", handled="a"), row("d", 0, (0,), 0, (1,)), row("d", 0, (1,), 0, (1,), handled="a")]
        for _ in range(many):
            k = len(rows)
            rows.append(row("d", 1, (k - 2,), 1, (k - 1,)))
            rows.append(row("d", 1, (k - 1,), 1, (k - 1,), handled="a"))
        return play(read_program(self.DOUBLE), Record(*rows))

    def test_great_lengths(self):
        played = self.doubled(200)
        self.assertEqual(played.lengths[:8], (1, 1, 2, 2, 4, 4, 8, 8))
        self.assertEqual(played.lengths[-1], 2 ** 201)
        self.assertEqual(played.lengths[-2], 2 ** 201)
        self.assertEqual(set(played.opens[0::2]), {False})
        self.assertEqual(set(played.opens[1::2]), {True})
        self.assertEqual(told(TooMany, played.front, len(played.lengths) - 1), ("letters", 60))

    def test_front_of_sixty(self):
        program = body("either", "  raise a from none", "or", "  try", "    call f p", "  except error", "    raise b")
        rows = [row("f", 0, given=("p",))]
        rows += [row("f", 1, (k,), given=("p",)) for k in range(60)]
        played = play(program, Record(*rows))
        self.assertEqual(played.lengths, tuple(range(1, 62)))
        self.assertEqual(played.front(59), ("b",) * 59 + ("a",))
        self.assertEqual(told(TooMany, played.front, 60), ("letters", 60))
        self.assertEqual(played.front(k=1), ("b", "a"))

    def test_long_chains(self):
        program = body("either", "  raise a", "or", "  try", "    call f p", "  except error", "    raise b")
        rows = [row("f", 0, given=("p",))]
        rows += [row("f", 1, (k,), given=("p",)) for k in range(5000)]
        self.assertEqual(play(program, Record(*rows)).lengths[-1], 5001)

    def test_many_calls_that_change_nothing(self):
        program = body("handling", "  either", "    again", "  or", "    call f p", "else", "  try", "    raise a",
            "  except a", "    call f p")
        rows = [row("f", 0, given=("p",), handled="a")]
        rows += [row("f", 1, (k,), given=("p",), handled="a") for k in range(3000)]
        rows.append(row("f", (3000,), given=("p",)))
        played = play(program, Record(*rows))
        self.assertEqual((played.lengths[:2], played.lengths[-1], played.front(3001)), ((0, 0), 1, ("a",)))

    def test_rows_that_return(self):
        played = play(body("pass"), Record(row("f", given=("p",))))
        self.assertEqual((played.outcomes, played.lengths, played.opens), (("returns",), (None,), (None,)))
        self.assertIsNone(played.front(0))

    def test_needed(self):
        program = body("call g", "call p", more="def g\n  call h\n  call h\ndef h\n  pass\n")
        rows = (row("h"), row("f", (0,), "a", given=("p",)), row("h"), row("g", (2,), (0,)), row("h"),
                row("f", (3,), "b", given=("p",)), row("f", (3,), "c", given=("q",)))
        wrong = rows
        self.assertEqual(told(NoRecord, play, program, Record(*wrong)), (1,))
        rows = (row("h"), row("h"), row("g", (1,), (1,)), row("g", (0,), (0,)), row("f", (2,), "a", given=("p",)),
                row("f", (3,), "c", given=("q",)))
        played = play(program, Record(*rows))
        self.assertEqual(played.needed, (0, 3, 5))
        self.assertEqual(played.acts, Acts(("q", None, "c")))
        played = play(program, Record(*rows[:5]))
        self.assertEqual(played.needed, (1, 2, 4))
        self.assertEqual(played.acts, Acts(("p", None, "a")))

    def test_acts_of_needed_rows(self):
        program = body("call g p", "call p", more="def g x\n  call x\n")
        rows = (row("g", "returns", given=("p",)), row("f", (0,), "a", given=("p",)))
        self.assertEqual(play(program, Record(*rows)).acts, Acts(("p", None, "returns"), ("p", None, "a")))

    def test_played_twice(self):
        record = Record(row("f", "a", "b", given=("p",)))
        program = read_program(P1)
        first, second = play(program=program, record=record), play(program, record)
        self.assertEqual(first.outcomes, second.outcomes)
        self.assertEqual(record, Record(row("f", "a", "b", given=("p",))))


class TestRefusedRows(unittest.TestCase):

    def refused(self, program, *rows):
        raised = told(NoRecord, play, program, Record(*rows))
        return None if raised is None else raised[0]

    def test_cases(self):
        program = read_program(P1)
        right = row("f", "returns", given=("p",))
        self.assertIsNone(self.refused(program, right))
        for wrong in (row("f", "returns"), row("g", "returns", given=("p",)), row("f", "returns", given=("f",)),
                      row("f", "returns", given=("raise",)), row("f", "returns", given=("p", "p")), row("f",
                      "returns", given=("",)),
                      row("f", "returns", given=("p",), handled="z"), row("f", "returns", given=("p",),
                      handled="returns"),
                      row("", given=("p",)), row("f", "returns", given=("p",), handled="")):
            self.assertEqual(self.refused(program, right, wrong, right), 1, wrong)
        for given in (("q",), ("error",), ("c",)):
            self.assertIsNone(self.refused(program, row("f", "returns", given=given, handled="error")))

    def test_choices_of_outside_callbacks(self):
        program = read_program(P1)
        for choices in ((), ("d",), ("",), (0,), ((0,),), ("returns", "returns"), ("a",), ("a", 0), ("a", "b", "b"),
            ("Returns",)):
            self.assertEqual(self.refused(program, row("f", *choices, given=("p",))), 0, choices)

    def test_choices_of_functions(self):
        program = body("call g", more="def g\n  pass\n")
        right = row("g")
        self.assertIsNone(self.refused(program, right, row("f", (0,), given=("p",))))
        for choices in ((), (0,), ("returns",), ((1,),), ((2,),), ((10 ** 50,),), ((0,), (0,)), ((0,), 0)):
            self.assertEqual(self.refused(program, right, row("f", *choices, given=("p",)), right), 1, choices)

    def test_first_faulty_row(self):
        program = read_program(P1)
        good, bad = row("f", "a", "b", given=("p",)), row("f", "a", given=("p",))
        self.assertEqual(self.refused(program, good, bad, row("x")), 1)
        self.assertEqual(self.refused(program, good, row("x"), bad), 1)
        self.assertEqual(self.refused(program, good, good, bad), 2)


if __name__ == "__main__":
    unittest.main()
