import itertools
import random
import unittest

from tests.lively_programs import lively_program
from tests.random_programs import random_program
from tests.samples import P4, nested, told
from whatleaves.clients import client, holds_client
from whatleaves.closing import closing
from whatleaves.errors import NoFunction, TooMany
from whatleaves.functions import Function
from whatleaves.later import leaving
from whatleaves.programs import Program
from whatleaves.reader import read_program
from whatleaves.texts import program_text
from whatleaves.wraps import wrapped

FOUR = read_program(P4)
CALL = read_program("class a error\ndef f p\n  call p")
# A wrap of g does harm: then f lets z leave.
HARM = read_program("""\
class a error
class b error
class z error
def g
  either
    raise a
  or
    raise b
def f
  try
    call g
  except b
    raise z
  except error
    raise a""")


def plain_closing(program, doors, allowed, made, places):
    """The same, from all that leaves all doors of each wrapped program."""
    leaks = []
    for many in range(len(places) + 1):
        for names in itertools.combinations(places, many):
            whole = wrapped(program, names, allowed, made)
            found = [(names, door, kind) for door in doors for kind in leaving(whole, whole.case(door))
                if not any(whole.classes.within(one, other) for one in kind for other in allowed)]
            if found == []:
                return names, tuple(leaks)
            leaks.append(found[0])
    return None, tuple(leaks)


class TestClosing(unittest.TestCase):

    def test_example(self):
        self.assertEqual(closing(CALL, ("f",), ("a",), "a", ("f",)), (("f",), (((), "f", ("error",)),)))
        self.assertEqual(closing(CALL, ("f",), ("a",), "a", ()), (None, (((), "f", ("error",)),)))
        self.assertEqual(closing(program=CALL, doors=("f",), allowed=("error",), made="a", places=("f",)), ((), ()))

    def test_p4(self):
        self.assertEqual(closing(FOUR, ("f",), ("a", "z"), "a", ("f",)), ((), ()))
        self.assertEqual(closing(FOUR, ("f",), ("z",), "z", ("f",)), (("f",), (((), "f", ("a",)),)))
        self.assertEqual(closing(FOUR, ("f",), ("a",), "a", ("f",)), (("f",), (((), "f", ("z",)),)))

    def test_made_is_not_allowed(self):
        self.assertEqual(closing(CALL, ("f",), ("a",), "vacant", ("f",)), (None, (((), "f", ("error",)), (("f",), "f", (
            "vacant",)))))

    def test_no_class_is_allowed(self):
        self.assertEqual(closing(CALL, ("f",), (), "a", ("f",)), (None, (((), "f", ("a",)), (("f",), "f", ("a",)))))
        program = read_program("class a error\ndef g\n  raise a\ndef f\n  try\n    call g\n  except vacant\n    pass")
        self.assertEqual(closing(program, ("f",), (), "vacant", ("f", "g")), (("g",), (((), "f", ("a",)), (("f",), "f", (
            "vacant",)))))

    def test_harm(self):
        self.assertEqual(closing(HARM, ("f",), ("a", "z"), "b", ("g",)), ((), ()))
        self.assertEqual(closing(HARM, ("f",), ("a",), "b", ("g", "f")), (None, (((), "f", ("z",)), (("g",), "f", ("z",)), ((
            "f",), "f", ("b",)), (("g", "f"), "f", ("b",)))))
        self.assertEqual(closing(HARM, ("f",), ("a",), "a", ("g", "f")), (("g",), (((), "f", ("z",)),)))
        self.assertEqual(closing(HARM, ("f",), ("b",), "b", ("g", "f")), (("f",), (((), "f", ("a",)), (("g",), "f", ("z",)))))

    def test_order_of_places(self):
        self.assertEqual(closing(HARM, ("f",), ("a",), "a", ("f", "g"))[0], ("f",))
        program = read_program("class a error\nclass b error\n" + "\n".join(f"def f{x}\n  raise b" for x in "abcd"))
        doors = ("fa", "fb", "fc", "fd")
        wraps, leaks = closing(program, doors, ("a",), "a", ("fd", "fb", "fc", "fa"))
        self.assertEqual(wraps, ("fd", "fb", "fc", "fa"))
        sets = [leak[0] for leak in leaks]
        places = ("fd", "fb", "fc", "fa")
        self.assertEqual(sets, [names for k in range(4) for names in itertools.combinations(places, k)])
        self.assertEqual([leak[1] for leak in leaks], [[door for door in doors if door not in names][0] for names in sets])
        self.assertEqual(closing(program, ("fb",), ("a",), "a", places), (("fb",), (((), "fb", ("b",)), (("fd",), "fb", (
            "b",)))))

    def test_first_door_and_first_kind(self):
        program = read_program("class a error\nclass b error\nclass c error\ndef f\n  either\n    raise c\n  or\n    raise b\n"
            "def g p\n  call p\ndef h\n  pass")
        self.assertEqual(closing(program, ("h", "f", "g"), ("a",), "a", ())[1], (((), "f", ("b",)),))
        self.assertEqual(closing(program, ("g", "f"), ("a",), "a", ())[1], (((), "g", ("b",)),))
        self.assertEqual(closing(program, ("g",), ("b", "c", "a"), "a", ())[1], (((), "g", ("error",)),))
        self.assertEqual(closing(program, ("h",), (), "a", ("f",)), ((), ()))

    def test_leaks_are_shown_by_clients(self):
        for program in (HARM, FOUR, CALL):
            for made in ("a", "error"):
                for names, door, kind in closing(program, program.names, ("a",), made, program.names)[1]:
                    whole = wrapped(program, names, ("a",), made)
                    one = client(whole, whole.case(door), kind)
                    self.assertTrue(holds_client(whole, whole.case(door), kind, one))

    def test_too_many(self):
        program = read_program("\n".join(f"class {name} error" for name in "abcde") + "\ndef f\n  pass")
        self.assertEqual(told(TooMany, closing, program, ("f",), ("error",), "a", ()), ("classes", 6))
        program = program.with_function(Function("g", block=nested(12)))
        self.assertEqual(told(TooMany, closing, program, ("f",), ("a",), "a", ("g",)), ("classes", 6))

    def test_a_set_that_cannot_be_wrapped(self):
        program = Program(HARM.classes, *HARM.functions, Function("deep", block=nested(12)), Function("many", block=((
            "pass",),) * 60))
        self.assertEqual(closing(program, ("f",), ("a",), "a", ("g", "deep")), (("g",), (((), "f", ("z",)),)))
        self.assertEqual(told(NoFunction, closing, program, ("f",), ("a",), "a", ("deep", "g")), ("deep", 12))
        self.assertEqual(told(NoFunction, closing, program, ("f",), ("a",), "a", ("many", "deep", "g")), ("many", 60))
        self.assertEqual(told(NoFunction, closing, program, ("f",), ("vacant",), "a", ("g", "deep")), ("deep", 12))
        self.assertEqual(closing(program, ("f",), ("error",), "a", ("deep", "many")), ((), ()))

    def test_random_programs(self):
        source = random.Random(8)
        wraps = {}
        for k in range(120):
            program = random_program(source, k % 4 == 1) if k % 2 == 0 else lively_program(source)
            names = list(program.names)
            doors = tuple(source.sample(names, source.choice((1, 1, 2, 3, 4))))
            places = tuple(source.sample(names, source.randrange(5)))
            allowed = tuple(source.sample(program.classes.names, source.choice((0, 1, 1, 2, 3))))
            made = source.choice(allowed) if allowed and source.random() < 0.7 else source.choice(program.classes.names)
            found = closing(program, doors, allowed, made, places)
            self.assertEqual(found, plain_closing(program, doors, allowed, made, places), (program_text(program), doors,
                allowed, made, places))
            key = None if found[0] is None else len(found[0])
            wraps[key] = wraps.get(key, 0) + 1
        self.assertGreater(len(wraps), 3)
        self.assertGreater(min(wraps[key] for key in (None, 0, 1)), 10)

    def test_nothing_is_changed(self):
        doors, allowed, places = ("f",), ("a",), ("g", "f")
        closing(HARM, doors, allowed, "a", places)
        self.assertEqual((doors, allowed, places), (("f",), ("a",), ("g", "f")))
        self.assertEqual([len(function) for function in HARM.functions], [3, 4])


if __name__ == "__main__":
    unittest.main()
