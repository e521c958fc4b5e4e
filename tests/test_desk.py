import random
import unittest

from tests.random_programs import random_program
from tests.samples import FORMS, P1, P2, P3, P4, any_values, told
from whatleaves.desk import Desk
from whatleaves.errors import (
    LeaveError, NoCase, NoClass, NoFunction, NoName, NoProgram, NoRow, NoText, TooMany)
from whatleaves.reader import read_program
from whatleaves.texts import program_text


def rows_of(text):
    return text.replace("\n", " / ")


def desk_with(text):
    desk = Desk()
    assert desk.say("program " + rows_of(text)) == "ok"
    return desk


CALL = "class a error\ndef f p\n  call p"
# Rows that are answered by a desk with P1, and their answers; in each of them each word counts.
ROWS = {
    "can f": "nothing",
    "can f p": "nothing",
    "can f q ; q:-:a q:a:b": "c",
    "can f p @a ; p:a:a p:-:b": "a",
    "can f @a ; p:-:b p:a:returns": "returns",
    "needs c f p ; p:-:a p:a:b": "p:-:a p:a:b",
    "needs c f p ; p:-:a p:a:b p:a:c p:-:c": "p:-:c / p:-:a p:a:b / p:-:a p:a:c",
    "needs returns f ; p:-:returns": "p:-:returns",
    "needs c f": "never",
    "needs w f ; p:-:w": "never",
    "needs a f @b ; p:b:a p:a:a": "p:a:a p:b:a",
    "bars c f p ; p:-:a p:a:b p:a:c p:-:c": "p:-:a p:-:c / p:-:c p:a:b p:a:c",
    "bars c f": "always",
    "bars w f p": "always",
    "later f": "a a+c a+c+vacant a+vacant b b+c b+c+vacant b+vacant c c+vacant error vacant",
    "later f q @a+b": "a a+c a+c+vacant a+vacant b b+c b+c+vacant b+vacant c c+vacant error vacant",
    "leaves c.b f": "no",
    "trails 6 f p": "nothing",
    "trails 1 f": "nothing",
    "longest f p": "0",
    "idle": "nothing",
    "undo": "ok",
    "drop f": "ok",
    "class d a b": "ok",
    "put def g /   pass": "ok",
    "close f ; ; a ; f": "none",
    "close f ; a ; a ; f": "wraps f",
    "close f ; error ; a ;": "wraps",
    "close f ; a b c vacant ; a ;": "none",
}


class TestExamples(unittest.TestCase):

    def test_document(self):
        desk = Desk()
        for row, answer in (
                ("program class a error / def f p /   call p", "ok"),
                ("can f p ; p:-:a p:-:returns p:a:error", "returns a"),
                ("can f p @a ; p:-:a p:-:returns p:a:error", "error"),
                ("needs a f p ; p:-:a p:-:returns", "p:-:a"),
                ("later f p", "a a+vacant error vacant")):
            self.assertEqual(desk.say(row), answer)
        self.assertEqual(told(NoRow, desk.say, "close f ; a ; a ; "), ())
        self.assertEqual(desk.say("close f ; a ; a ;"), "none")
        self.assertEqual(desk.say(row="close f ; a ; a ; f"), "wraps f")

    def test_rows(self):
        for row, answer in ROWS.items():
            self.assertEqual(desk_with(P1).say(row), answer, row)

    def test_p3(self):
        desk = desk_with(P3)
        for row, answer in (("longest f", "endless"), ("longest m", "1"), ("trails 5 f", "c a.c.b a.a.c.b.b"),
                ("trails 1 f", "c"), ("leaves a.c.b f", "yes"), ("leaves a.c.b.b f", "no"), ("leaves w f", "no"),
                ("leaves a.c.w f", "no"), ("leaves " + ".".join(["a"] * 12) + " f", "no"), ("can f", "a c"),
                ("can f @b", "a c"), ("later f", "a c"), ("close f m ; a c ; a ; m f", "wraps m"),
                ("close f ; a ; a ; m f", "wraps f"), ("close m f ; c ; c ; m f", "wraps m"),
                ("close m f ; vacant ; vacant ; m f", "wraps m f")):
            self.assertEqual(desk.say(row), answer, row)

    def test_p2_and_p4(self):
        self.assertEqual(desk_with(P2).say("trails 2 whose"), "vacant")
        self.assertEqual(desk_with(P2).say("can whose @vacant"), "vacant")
        self.assertEqual(desk_with(P4).say("later f"), "a a+vacant a+vacant+z a+z z")
        self.assertEqual(desk_with(P4).say("later f @b+z"), "a a+vacant a+vacant+z a+z z")

    def test_idle(self):
        desk = desk_with("class a error\ndef f\n  try\n    raise a\n  except vacant\n    pass\n  except error\n    pass\n"
            "  except a\n    pass\ndef g p\n  try\n    call f\n  except a\n    pass")
        self.assertEqual(desk.say("idle"), "f.0.0 f.0.2 g.0.0")

    def test_very_great_numbers(self):
        desk = Desk()
        rows = ["class a error", "def fz /   raise a"]
        names = "zabcdefghijk"
        for k in range(1, 12):
            call = f"call f{names[k - 1]}"
            rows.append(f"def f{names[k]} /   try /     {call} /   except error /     {call}")
        self.assertEqual(desk.say("program " + " / ".join(rows)), "ok")
        self.assertEqual(desk.say("longest fk"), "2048")


class TestChanges(unittest.TestCase):

    def test_at_first(self):
        desk = Desk()
        self.assertEqual((desk.say("show"), desk.say("undo"), desk.say("idle")), ("", "nothing", "nothing"))

    def test_each_change(self):
        desk = Desk()
        shown = [""]
        for row, text in (
                ("class a error", "class a error"),
                ("put def f p /   call p", "class a error / def f p /   call p"),
                ("class b a vacant", "class a error / class b a vacant / def f p /   call p"),
                ("put def g /   try /     call f g /   except b as n /     again n", None),
                ("put def f q /   pass", None),
                ("drop g", "class a error / class b a vacant / def f q /   pass"),
                ("program ", ""),
                ("program def h /   again", "def h /   again")):
            self.assertEqual(desk.say(row), "ok")
            shown.append(desk.say("show"))
            if text is not None:
                self.assertEqual(shown[-1], text)
        for text in shown[-2::-1]:
            self.assertEqual(desk.say("undo"), "ok")
            self.assertEqual(desk.say("show"), text)
        self.assertEqual(desk.say("undo"), "nothing")

    def test_show_is_read_back(self):
        for text in (P1, P2, P3, P4, FORMS, "", "class a error"):
            desk = desk_with(text)
            self.assertEqual(desk.say("show"), rows_of(text))
            other = Desk()
            other.say("program " + desk.say("show"))
            self.assertEqual(other.say("show"), rows_of(text))

    def test_what_raises_changes_nothing(self):
        desk = desk_with(P3)
        for row in ("drop m", "drop g", "class a error", "class d x", "put def m p /   pass", "put def g /   call x",
                "put def f", "program class a", "program def f /   again n", "put def g /   break", "undo ", "undo undo",
                "program", "put", "class d", "can g", "trails 7 f", "close f ; a ; a ; x"):
            with self.assertRaises(LeaveError):
                desk.say(row)
            self.assertEqual(desk.say("show"), rows_of(P3))
        self.assertEqual((desk.say("undo"), desk.say("undo")), ("ok", "nothing"))

    def test_random_programs(self):
        source = random.Random(12)
        for _ in range(20):
            text = program_text(random_program(source))
            desk = desk_with(text)
            self.assertEqual(desk.say("show"), rows_of(text))


class TestNoRow(unittest.TestCase):

    def refused(self, *rows, desk=None):
        desk = desk or desk_with(P1)
        for row in rows:
            self.assertEqual(told(NoRow, desk.say, row), (), row)

    def test_any_values(self):
        self.refused(*[x for x in any_values()], desk=Desk())
        self.refused(*[x for x in any_values()])

    def test_first_words(self):
        self.refused("", " ", "  show", " show", "shows", "sho", "SHOW", "Show", "show\n", "say", "def f", "raise a", "ok",
            "showidle", "show/", "program\n", "put\tdef", "program\tclass a error", "undo\t", "@", ";", "/", " / ")

    def test_newlines(self):
        self.refused("show\nidle", "can f\n", "\ncan f", "program class a error\ndef f", "put def f /   pass\n", "program \n")

    def test_rows_with_too_few_or_too_many_words(self):
        self.refused("program", "put", "class", "class d", "drop", "drop f f", "undo f", "show f", "idle f", "can", "can @a",
            "can ; p:-:a", "needs", "needs a", "needs a @a", "needs a ; p:-:a", "bars", "bars a", "later", "later @a", "leaves",
            "leaves a", "trails", "trails 3", "longest", "close", "close f", "close f ; a ; a", "close f ; a ; a ; ; f",
            "close f ; a ; a ; f ; f", "close ; a ; a ; f", "close f ; a ; ; f", "close f ; a ; a b ; f",
            "close a b c d e ; a ; a ; f", "close f ; a ; a ; a b c d e")

    def test_one_thing_otherwise(self):
        for row in ROWS:
            words = row.split(" ")
            if words[0] in ("program", "put"):
                continue
            changed = [row + " ", " " + row, row.replace(" ", "  ", 1), row + "  x"]
            changed += [row[:k] + "  " + row[k + 1:] for k in range(len(row)) if row[k] == " "]
            changed += [" ".join(words[:k] + [word.upper()] + words[k + 1:]) for k, word in enumerate(words)
                if word != word.upper()]
            changed += [" ".join(words[:k] + [word + "Q"] + words[k + 1:]) for k, word in enumerate(words)]
            changed += [" ".join(words[:k] + ["none"] + words[k + 1:]) for k, word in enumerate(words)]
            changed += [" ".join(words[:k] + ["abcdefghi"] + words[k + 1:]) for k, word in enumerate(words)]
            self.refused(*[one for one in changed if one != row])

    def test_forms_of_words(self):
        self.refused("can f p q1", "can f none", "can returns", "can f @", "can f @a+", "can f @+a", "can f @a+a", "can f @a+b+a",
            "can f @returns", "can f @a p", "can f @a @b", "can @a f", "can f@a", "can f p;p:-:a", "can f ;", "can f p ;",
            "can f ; ;", "can f ; p:-:a ;", "can f ; p:-:a @a", "can f ; p:-", "can f ; p::a", "can f ; p:a", "can f ; p:-:a:b",
            "can f ; p:-:-", "can f ; -:-:a", "can f ; p:returns:a", "can f ; p:-:again", "can f ; p:-:a,p:a:b",
            "needs none f", "needs 1 f", "needs a.b f", "needs @a f", "later f ; p:-:a", "later f @a+a", "later f @b+",
            "leaves a. f", "leaves .a f", "leaves a..b f", "leaves a+b f", "leaves returns f", "leaves a f @a", "leaves a f ; p:-:a",
            "leaves " + ".".join(["a"] * 13) + " f", "trails 0 f", "trails 7 f", "trails 01 f", "trails 1.0 f", "trails -1 f",
            "trails +1 f", "trails a f", "trails 12 f", "trails 3 f @a", "longest f @a", "longest f ; p:-:a",
            "class a1 error", "class none error", "class d e-f", "drop none", "drop f1", "drop @f")

    def test_close(self):
        self.refused("close f f ; a ; a ; f", "close f ; a a ; a ; f", "close f ; a ; a ; f f", "close f ;a ; a ; f",
            "close f ; a b a ; a ; f", "close f; a ; a ; f", "close f ; a ; a;", "close f , a , a , f", "close f ; a ; a ; @f",
            "close f ; returns ; a ; f", "close f ; a ; none ; f")
        desk = desk_with("\n".join(f"def f{x}\n  pass" for x in "abcd"))
        self.assertEqual(desk.say("close fa fb fc fd ; ; error ; fd fc fb fa"), "wraps")
        self.assertEqual(desk.say("close fa ; error vacant ; vacant ; fa"), "wraps")

    def test_before_all_others(self):
        self.refused("can g x y z @a+a", "drop g g", "close x ; y ; z", "leaves w g @w", "trails 9 g", "class a",
            "needs a g ; p:-", "later g @w+w")


class TestErrors(unittest.TestCase):

    def setUp(self):
        self.desk = desk_with(P1 + "\ndef g\n  call f g")

    def raised(self, error, row, *told_of):
        self.assertEqual(told(error, self.desk.say, row), told_of, row)

    def test_texts(self):
        self.raised(NoText, "program  ", 0)
        self.raised(NoText, "put ", 0)
        self.raised(NoText, "program class a error / ", 1)
        self.raised(NoText, "program class a error /def f", 0)
        self.raised(NoText, "program class a error /  / def f", 1)
        self.raised(NoText, "program def f /  pass", 1)
        self.raised(NoText, "program def f /   pass / pass", 2)
        self.raised(NoText, "program def f / class a error", 1)
        self.raised(NoText, "put class a error", 0)
        self.raised(NoText, "put def f", 1)
        self.raised(NoText, "put def f /   pass / def g /   pass", 2)
        self.raised(NoText, "program def f /   try /     pass", 3)
        self.raised(NoText, "program  def f", 0)
        self.raised(NoText, "program def f / \tpass", 1)

    def test_constructors(self):
        self.raised(NoClass, "program class a error / class b x / def f /   break", "base", 1)
        self.raised(NoFunction, "program class a error / def f f /   break / def g /   call x", "callback", 0)
        self.raised(NoFunction, "program def f /   again n", "bound", 0)
        self.raised(NoProgram, "program def f /   raise a / def f /   pass", "function", 1)
        self.raised(NoProgram, "program def f /   raise a", "statement", (0, 0))
        self.raised(NoFunction, "put def h p q r /   pass", "callback", 2)
        self.raised(NoProgram, "put def h /   call x", "statement", (2, 0))
        self.raised(NoProgram, "put def f /   pass", "statement", (1, 0))
        self.raised(NoProgram, "put def p /   pass", "callback", 0)

    def test_changes(self):
        self.raised(NoClass, "class a error", "name", 3)
        self.raised(NoClass, "class error a", "name", 3)
        self.raised(NoClass, "class d d", "base", 3)
        self.raised(NoClass, "class d a a", "base", 3)
        self.raised(NoName, "drop x", "x")
        self.raised(NoProgram, "drop f", "statement", (0, 0))

    def test_names_of_close(self):
        self.raised(NoName, "close x f ; y ; z ; w", "x")
        self.raised(NoName, "close f y ; y ; z ; w", "y")
        self.raised(NoName, "close f a ; f ; z ; w", "a")
        self.raised(NoName, "close f ; a f ; z ; w", "f")
        self.raised(NoName, "close f ; a ; g ; w", "g")
        self.raised(NoName, "close f ; a ; a ; g a", "a")
        self.raised(NoName, "close f ; ; p ; p", "p")

    def test_cases(self):
        for word in ("can", "needs a", "bars w", "later", "leaves w.a", "trails 6", "longest"):
            self.raised(NoCase, f"{word} x", "function")
            self.raised(NoCase, f"{word} a p q r", "function")
            self.raised(NoCase, f"{word} f p p", "given")
            self.raised(NoCase, f"{word} f f", "given")
            self.raised(NoCase, f"{word} g p", "given")
        for word in ("can", "needs a", "bars w", "later"):
            self.raised(NoCase, f"{word} f p @w", "handled")
            self.raised(NoCase, f"{word} x p @w", "function")
            self.raised(NoCase, f"{word} f p p @w", "given")
            self.raised(NoCase, f"{word} f p @b+a", "handled")
            self.raised(NoCase, f"{word} f p p @b+a", "given")
        for word in ("can", "needs a", "bars w"):
            self.raised(NoCase, f"{word} f p @a+b", "handled")
            self.raised(NoCase, f"{word} f f @a+b", "given")
            self.raised(NoCase, f"{word} x @a+b", "function")
        self.raised(NoCase, "later f @a+error", "handled")
        self.assertEqual(self.desk.say("later g @a+b"), self.desk.say("later g"))
        self.assertEqual(self.desk.say("can g @a"), "nothing")

    def test_too_many(self):
        acts = " ".join(f"p:{j}:{o}" for j in "-ab" for o in ("a", "b", "c"))
        self.raised(TooMany, f"needs a f ; {acts}", "acts", 8)
        self.raised(TooMany, f"bars w f ; {acts}", "acts", 8)
        self.raised(NoCase, f"needs a x ; {acts}", "function")
        self.raised(NoCase, f"bars a f @a+b ; {acts}", "handled")
        self.assertEqual(self.desk.say(f"can f ; {acts}"), "a b c")
        self.assertEqual(self.desk.say(f"needs a f ; {acts[:-6]}"), "p:-:a p:a:a")
        self.assertEqual(self.desk.say("needs a f ; " + "p:-:a " * 12 + "p:a:a"), "p:-:a p:a:a")
        self.desk.say("class d error")
        self.assertEqual(self.desk.say("idle"), "nothing")
        self.desk.say("class e error")
        self.raised(TooMany, "idle", "classes", 6)
        self.raised(TooMany, "later f", "classes", 6)
        self.raised(TooMany, "close f ; a ; a ;", "classes", 6)
        self.raised(NoName, "close f ; x ; a ;", "x")
        self.raised(NoCase, "later x", "function")
        self.assertEqual(self.desk.say("can f"), "nothing")

    def test_too_many_trails(self):
        names = [f"x{letter}" for letter in "abcdefghijk"]
        either = " / ".join(f"  {'or' if k else 'either'} /     raise {name}" for k, name in enumerate(names))
        inner = " / ".join("  " + row for row in either.split(" / "))
        self.desk.say("program " + " / ".join(f"class {name} error" for name in names) + " / def f / " + either
            + " / def g /   try /     call f /   except error / " + inner)
        self.raised(TooMany, "trails 2 g", "trails", 100)
        self.raised(NoCase, "trails 2 x", "function")
        self.assertEqual(self.desk.say("trails 1 g"), "nothing")
        self.assertEqual(self.desk.say("trails 6 f"), " ".join(names))

    def test_functions_that_cannot_be_wrapped(self):
        self.desk.say("put def deep / " + " / ".join("  " * (k + 1) + "loop" for k in range(11)) + " / " + "  " * 12 + "call g")
        self.raised(NoFunction, "close f deep ; a ; a ; deep", "deep", 12)
        self.raised(NoName, "close f deep ; a ; a ; deep x", "x")
        self.assertEqual(self.desk.say("close f ; a ; a ; f deep"), "wraps f")


if __name__ == "__main__":
    unittest.main()
