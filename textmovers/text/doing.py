"""Commands that change a shop, or show what it keeps.

The forms of commands tell what stands behind their first word: a sort of parts, with
a question mark ahead, or a word that stands there itself.
"""

from textmovers.text.formats import write_move
from textmovers.text.shops import pair_parts, write_shop


def do_keep(shop, name, word):
    """Keeps a word."""
    shop.keep(name, word)
    return "done"


def do_link(shop, name, one, other):
    """Keeps one word and then another one."""
    shop.link(name, one, other)
    return "done"


def do_turn(shop, name):
    """Keeps the undone word in the place of a word."""
    shop.turn_back(name)
    return "done"


def do_drop(shop, name):
    """Keeps a word no more."""
    shop.drop(name)
    return "done"


def do_promise(shop, label, *promise):
    """Keeps a promise."""
    shop.promise(label, tuple(promise))
    return "done"


def do_release(shop, label):
    """Keeps a promise no more."""
    shop.release(label)
    return "done"


def do_undo(shop, many=1):
    """Takes back calls."""
    shop.undo(many=many)
    return "done"


def do_redo(shop, many=1):
    """Does calls again."""
    shop.redo(many=many)
    return "done"


def show_names(shop):
    """The names of the kept words."""
    return parts_answer(shop.names)


def show_labels(shop):
    """The labels of the promises."""
    return parts_answer(shop.labels)


def show_shop(shop):
    """The string of the shop."""
    return write_shop(shop)


def show_word(shop, name):
    """A kept word."""
    return word_answer(shop[name])


def show_move(shop, name):
    """The string of the move of a kept word."""
    return write_move(shop.move(name))


def word_answer(word):
    """A word, or none, as an answer."""
    return "none" if word is None else parts_answer(pair_parts(word))


def parts_answer(parts):
    """The parts, separated by blanks, or none if there are none."""
    return " ".join(list(parts)) if parts else "none"


DOING = {
    "keep": ((("?word", "?pairs"), do_keep),),
    "link": ((("?word", "?word", "?word"), do_link),),
    "turn": ((("?word",), do_turn),),
    "drop": ((("?word",), do_drop),),
    "promise": (
        (("?word", "alike", "?word", "?word"), do_promise),
        (("?word", "calm", "?word"), do_promise),
        (("?word", "idle", "?word"), do_promise),
        (("?word", "leads", "?word", "?text", "?text"), do_promise),
        (("?word", "round", "?word"), do_promise),
        (("?word", "swap", "?word", "?word"), do_promise),
        (("?word", "times", "?word", "?number"), do_promise),
    ),
    "release": ((("?word",), do_release),),
    "undo": (((), do_undo), (("?many",), do_undo)),
    "redo": (((), do_redo), (("?many",), do_redo)),
    "names": (((), show_names),),
    "labels": (((), show_labels),),
    "show": (((), show_shop),),
    "word": ((("?word",), show_word),),
    "move": ((("?word",), show_move),),
}
