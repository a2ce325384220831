"""What the tests share: values of every kind, texts of houses, and a look at errors with the very value."""

import copy
import inspect
import unittest


def nested(depth):
    """A value that is nested so deep."""
    value = 1
    for level in range(depth):
        value = [value] if level % 3 == 0 else (value,) if level % 3 == 1 else {"a": value}
    return value


VALUES = (
    None, True, False, 0, 1, 2, -1, 7, 10 ** 17, "", "a", "x", "night", "do", "text of words", (), (1,), (True,),
    ("night",), ("night", 0), ["night"], [], [()], [1, 2], {}, {"night": 1}, {(1,): [2]}, ((),), ((), ()),
    ((), (), ()), ((0,), 0, 0), [(0,), 0], (None, None, None), ("do", "x", "a"), (("do",), "x", "a", 0),
    (["do"], {}, [], [0]), (("a",),), (["a"],), ({},), nested(40))

SMALL = 'people a b\ncell c 2 0\nkind k\n  who w\ndeed x\n  row k who\nday 1'

# More cases than are looked at come here by unseen moves, if done, often and the like are asked for.
BIG = """people a
cell c 4 0
cell d 4 0
cell e 4 0
deed x
  pick 4
  set c it
deed y
  pick 4
  set d it
deed z
  pick 4
  set e it
day 3"""

# What holds now and then, and what never does; each has more than 2000 cases.
BIG_ASK = ("or", ("or", ("done", "x", None, 0), ("done", "x", None, 1)),
           ("or", ("done", "x", None, 2), ("done", "x", None, 3)))
BIG_NEVER = ("and", ("and", ("done", "x", None, 1), ("not", ("done", "x", None, 1))),
             ("or", ("often", "y", 3), ("often", "z", 3)))

FULL = """people ann bob cy
cell c 4 3
cell d 2 0
cell e 3 1
kind k
  who w
  worth v 4
  worth u 2
kind l
kind m
  worth v 3
deed x
  by cy ann
  if c = 3
  if d != 1
  pick 3
  set c it
  add d 1
  add c e
  row k who it d
  row l
deed y
  row k bob c 1
deed z
  set e d
deed n
day 3"""


def replaced(text, number, *rows):
    """The text with these rows in the place of the line of this number."""
    lines = text.split("\n")
    return "\n".join(lines[:number - 1] + list(rows) + lines[number:])


def first_wrong(rows):
    """How many of the rows stand ahead of the wrong one: the first that is empty, else the last one."""
    lines = rows.split("\n")
    if "" in lines:
        return lines.index("")
    return len(lines) - 1


class Case(unittest.TestCase):
    """Tests with a check of errors and of what was handed in."""

    def refuses(self, error, told, function, *args, **named):
        """The call raises just this error, with what it keeps, and changes no argument."""
        before = copy.deepcopy([args, named])
        with self.assertRaises(error) as caught:
            function(*args, **named)
        self.assertIs(type(caught.exception), error)
        (name, value), = vars(caught.exception).items()
        if name == "value":
            self.assertIs(value, told)
        else:
            self.same(value, told)
        self.assertEqual([args, named], before)

    def same(self, one, other):
        """Equal, and of the same kinds throughout: True is not 1, a list is not a tuple."""
        self.assertEqual(repr(one), repr(other))

    def takes_names(self, function, *args):
        """The call with the arguments by their names, in any sequence, gives the same, and so does a further one."""
        names = list(inspect.signature(function).parameters)
        before = copy.deepcopy(args)
        told = function(*args)
        self.same(function(**dict(zip(names[::-1], args[::-1]))), told)
        self.same(function(*args), told)
        self.assertEqual(args, before)
        return names
