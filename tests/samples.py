"""Programs of the document, any values, and a check for refused calls."""

from whatleaves.acts import Acts
from whatleaves.classes import Classes
from whatleaves.functions import Function
from whatleaves.programs import Program
from whatleaves.records import Record

P1 = """\
class a error
class b error
class c error
def f p
  try
    call p
  except a
    try
      call p
    except b
      raise c"""
P2 = """\
class a error
def whose
  again
def f
  try
    raise a
  except a
    call whose"""
P3 = """\
class a error
class b error
class c error
def m
  raise b
def f
  either
    raise c
  or
    try
      call m
    except b
      try
        call f
      except error
        raise a"""
P4 = """\
class a error
class b error
class z error
def f p
  try
    call p
  except a
    try
      again
    except b
      raise z
  except error
    pass"""

PASS = (("pass",),)
CALL_P = (("call", "p"),)

# One program with each form of statement, in each of its variants.
FORMS = """\
class a error
class b a vacant
def g
  pass
def two p q
  call p
  call q
def f p
  return
  loop
    break
  raise a
  raise a from none
  again
  call g
  call p
  call two p g
  handling
    pass
  else
    again
  either
    pass
  or
    return
  or
    raise b
  try
    pass
  finally
    pass
  try
    pass
  except a b as n
    raise a from n
    again n
  except error
    pass
  try
    pass
  except vacant
    pass
  else
    pass
    return
  finally
    pass
  try
    pass
  except vacant as x
    pass
  finally
    pass
  with g p
    pass
  with p p quiet a b
    pass"""


def nested(depth):
    """A block in which blocks are this deep."""
    block = PASS
    for _ in range(depth - 1):
        block = (("loop", block),)
    return block


def any_values():
    """Any values, in the sense of the document: those of Python's own kinds, and objects of the package."""
    function = Function("f", block=PASS)
    return [
        None, True, False, 0, 1, -1, 30, 10 ** 99, "", " ", "a", "f", "p", "error", "vacant", "none", "returns",
        "raise",
        "A", "abcdefgh", "abcdefghi", "a1", "a b", "a\n", "\ta", "a" * 8000, (), [], {}, ("a",), ["a"], {"a": "error"},
        ("a", "error"), ["a", "error"], ("a", 1), (None, None), ((), ()), ([], {}), ("a", ["error"]), (True, False, 1),
        (("pass",),), [("pass",)], (((((),),),),), [[[[[]]]]], ("pass", []), ({"a": {"b": []}},), (function,),
        Classes(("a", "error")), function, Program(Classes(), function), Acts(("p", None, "a")),
        Record((("f", (), None), ())),
    ]


def told(error, call, *args, **more):
    """The attributes of the error of this class that the call raises, as a tuple; None if it raises none."""
    try:
        call(*args, **more)
    except error as raised:
        return tuple(vars(raised).values())
    return None
