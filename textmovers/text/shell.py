"""A shell: a shop that does the commands of lines and answers them by strings."""

from textmovers.errors import (
    Broken, InvalidName, InvalidNumber, InvalidOperation, InvalidText, InvalidWord, Loud, NothingToUndo, TooMany,
    UnknownName,
)
from textmovers.shop.shop import Shop
from textmovers.text.asking import ASKING
from textmovers.text.doing import DOING
from textmovers.text.lines import words_of
from textmovers.text.parts import read_parts


class Shell:
    """A shell over a new shop of a machine."""

    def __init__(self, machine):
        self._shop = Shop(machine)

    def shop(self):
        """A twin of the shop."""
        return self._shop.twin()

    def __call__(self, line):
        return self.answer(line)

    def answer(self, line):
        """Does the command of a line; returns the answer."""
        if not isinstance(line, str) or "\n" in line:
            return "what"
        words = words_of(line)
        if words is None:
            return "what"
        for form, action in (*DOING.get(words[0], ()), *ASKING.get(words[0], ())):
            parts = read_parts(form, words[1:])
            if parts is not None:
                return answered(action, self._shop, parts)
        return "what"


def answered(action, shop, parts):
    """What a command answers, or a word for the error that it raises."""
    try:
        return action(shop, *parts)
    except UnknownName as unknown:
        return f"unknown {unknown.name}"
    except InvalidName:
        return "name"
    except InvalidText:
        return "text"
    except InvalidWord:
        return "word"
    except InvalidOperation:
        return "operation"
    except InvalidNumber as wrong:
        return f"number {wrong.value}"
    except TooMany as beyond:
        return f"many {beyond.limit}"
    except Broken as broken:
        return f"broken {broken.label}"
    except Loud as loud:
        return f"loud {loud.state}"
    except NothingToUndo as missing:
        return f"undo {missing.many}"
