"""The errors: what they are derived from, and what they keep."""

from support import BIG, HANOI, Case
from textmovers import errors

MOVER = errors.MoverError

BASES = {
    errors.MoverError: ValueError,
    errors.InvalidName: MOVER,
    errors.InvalidMachine: MOVER,
    errors.InvalidMove: MOVER,
    errors.InvalidText: MOVER,
    errors.InvalidWord: MOVER,
    errors.InvalidOperation: MOVER,
    errors.ParseError: MOVER,
    errors.InvalidNumber: IndexError,
    errors.UnknownName: KeyError,
    errors.TooMany: OverflowError,
    errors.NothingToUndo: LookupError,
    errors.Broken: ArithmeticError,
    errors.Loud: RuntimeError,
}

KEPT = {
    errors.ParseError: "index",
    errors.InvalidNumber: "value",
    errors.UnknownName: "name",
    errors.TooMany: "limit",
    errors.NothingToUndo: "many",
    errors.Broken: "label",
    errors.Loud: "state",
}

PYTHONS = [
    Exception, ValueError, TypeError, LookupError, KeyError, IndexError, ArithmeticError, ZeroDivisionError,
    OverflowError, FloatingPointError, RuntimeError, RecursionError, NotImplementedError, AttributeError,
    OSError, StopIteration, AssertionError, UnicodeError, NameError,
]


class Errors(Case):

    def test_bases(self):
        for error, base in BASES.items():
            with self.subTest(error=error.__name__):
                self.assertEqual(error.__bases__, (base,))

    def test_caught_by_its_own_and_its_bases_only(self):
        for error in BASES:
            ancestors = {error, BASES[error]}
            ancestors.update(*(base.__mro__ for base in list(ancestors)))
            for catcher in [*BASES, *PYTHONS]:
                with self.subTest(error=error.__name__, catcher=catcher.__name__):
                    try:
                        raise error("x")
                    except catcher:
                        caught = True
                    except Exception:
                        caught = False
                    self.assertEqual(caught, catcher in ancestors)

    def test_ancestors_as_told(self):
        self.assertTrue(issubclass(errors.ParseError, ValueError))
        self.assertTrue(issubclass(errors.InvalidNumber, LookupError))
        self.assertTrue(issubclass(errors.UnknownName, LookupError))
        self.assertFalse(issubclass(errors.InvalidNumber, ValueError))
        self.assertFalse(issubclass(errors.UnknownName, ValueError))
        self.assertFalse(issubclass(errors.TooMany, ValueError))

    def test_what_they_keep(self):
        for error, field in KEPT.items():
            for value in [0, 7, -BIG, None, True, "x", "a\nb", (1, "2"), ["x"], {"a": 1}, HANOI]:
                with self.subTest(error=error.__name__, value=value):
                    self.assertIs(getattr(error(value), field), value)

    def test_strings(self):
        for error in (errors.InvalidNumber, errors.UnknownName):
            for value in [0, 7, BIG, None, True, "", "x", "a'b", "a\nb", (1, "2"), ["x"], {"a": 1}]:
                with self.subTest(error=error.__name__, value=value):
                    self.assertEqual(str(error(value)), repr(value))

    def test_messages(self):
        for error in BASES:
            if error not in KEPT:
                with self.subTest(error=error.__name__):
                    self.assertEqual(str(error("why not")), "why not")
