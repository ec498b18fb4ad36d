"""Questions about the moves of kept words, about the machine, about texts, and for papers."""

from textmovers.core.cores import core, core_depth, core_paper, settled
from textmovers.endless.near import are_near, far_length, near_ones, near_paper
from textmovers.endless.texts import Endless
from textmovers.grow.busy import busy, is_quiet, kind, kind_paper
from textmovers.level.levels import level_size, parting_length, piece_number
from textmovers.move.alike import apart_text
from textmovers.ring.orders import order, order_paper
from textmovers.ring.rings import led_often, ring_length, times
from textmovers.ring.rounds import first_stop, goes_round, round_paper
from textmovers.text.doing import parts_answer, word_answer
from textmovers.text.formats import write_value
from textmovers.way.ways import fewest, short_word


def ask_led(shop, name, text):
    """Where a kept word leads a text."""
    return text_answer(shop.led(name, text))


def ask_often(shop, name, number, text):
    """Where so many times the move lead a text."""
    return text_answer(led_often(shop.move(name), text, number))


def ask_ring(shop, name, text):
    """How many texts the ring of a text has."""
    return number_answer(ring_length(shop.move(name), text))


def ask_times(shop, name, text, other_text):
    """How often the move must be done to lead one text to another one."""
    return number_answer(times(shop.move(name), text, other_text))


def ask_kind(shop, name):
    """The kind of a move."""
    return parts_answer([str(part) for part in kind(shop.move(name))])


def ask_busy(shop, name, length):
    """A busy number of a move."""
    return number_answer(busy(shop.move(name), length))


def ask_alike(shop, name, other):
    """Whether both moves are equal."""
    return truth_answer(shop.move(name) == shop.move(other))


def ask_apart(shop, name, other):
    """The least text that the moves lead to unlike texts."""
    return text_answer(apart_text(shop.move(name), shop.move(other)))


def ask_order(shop, name):
    """The order of a move."""
    return number_answer(order(shop.move(name)))


def ask_round(shop, name):
    """Whether a move goes round all texts of each length."""
    return truth_answer(goes_round(shop.move(name)))


def ask_stop(shop, name):
    """The least length that a move does not go round."""
    return number_answer(first_stop(shop.move(name)))


def ask_settled(shop, name):
    """From which length on the rests of a kept word are in the core."""
    word = shop[name]
    return number_answer(settled(shop.machine, word))


def ask_quiet(shop):
    """Whether the machine is quiet."""
    return truth_answer(is_quiet(shop.machine))


def ask_core(shop):
    """How many moves the core has."""
    return number_answer(len(core(shop.machine)))


def ask_depth(shop):
    """The core depth."""
    return number_answer(core_depth(shop.machine))


def ask_size(shop, length):
    """How many level turns a length has."""
    return number_answer(level_size(shop.machine, length))


def ask_pieces(shop, length):
    """How many pieces the texts of a length have."""
    return number_answer(piece_number(shop.machine, length))


def ask_parting(shop):
    """The least length at which there are several pieces."""
    return number_answer(parting_length(shop.machine))


def ask_near(shop, one, other):
    """Whether two endless texts are near."""
    return truth_answer(are_near(shop.machine, endless_of(shop, one), endless_of(shop, other)))


def ask_nears(shop, one):
    """All endless texts that are near one."""
    return parts_answer([str(near) for near in near_ones(shop.machine, endless_of(shop, one))])


def ask_far(shop, one, other):
    """From which length on two endless texts are not led to one another."""
    return number_answer(far_length(shop.machine, endless_of(shop, one), endless_of(shop, other)))


def ask_fewest(shop, text, other_text):
    """The fewest steps from one text to another one."""
    return number_answer(fewest(shop.machine, text, other_text))


def ask_way(shop, text, other_text):
    """A word of fewest steps from one text to another one."""
    return word_answer(short_word(shop.machine, text, other_text))


def paper_of_kind(shop, _, name):
    """A paper of the kind of a move."""
    return write_value(kind_paper(shop.move(name)))


def paper_of_order(shop, _, name):
    """A paper of the order of a move."""
    return write_value(order_paper(shop.move(name)))


def paper_of_round(shop, _, name):
    """A paper of whether a move goes round all lengths."""
    return write_value(round_paper(shop.move(name)))


def paper_of_core(shop, _):
    """A paper of the core."""
    return write_value(core_paper(shop.machine))


def paper_of_near(shop, _, one, other):
    """A paper of whether two endless texts are near."""
    return write_value(near_paper(shop.machine, endless_of(shop, one), endless_of(shop, other)))


def endless_of(shop, parts):
    """The endless text with this ring and this tail."""
    ring, tail = parts
    return Endless(shop.machine.letters, ring, tail=tail)


def text_answer(text):
    """A text, or None, as an answer."""
    return "none" if text is None else f"={text}"


def number_answer(number):
    """A number, or None, as an answer."""
    return "none" if number is None else str(number)


def truth_answer(truth):
    """What is true or false as an answer."""
    return "yes" if truth else "no"


ASKING = {
    "led": ((("?word", "?text"), ask_led),),
    "often": ((("?word", "?number", "?text"), ask_often),),
    "ring": ((("?word", "?text"), ask_ring),),
    "times": ((("?word", "?text", "?text"), ask_times),),
    "kind": ((("?word",), ask_kind),),
    "busy": ((("?word", "?number"), ask_busy),),
    "alike": ((("?word", "?word"), ask_alike),),
    "apart": ((("?word", "?word"), ask_apart),),
    "order": ((("?word",), ask_order),),
    "round": ((("?word",), ask_round),),
    "stop": ((("?word",), ask_stop),),
    "settled": ((("?word",), ask_settled),),
    "quiet": (((), ask_quiet),),
    "core": (((), ask_core),),
    "depth": (((), ask_depth),),
    "size": ((("?number",), ask_size),),
    "pieces": ((("?number",), ask_pieces),),
    "parting": (((), ask_parting),),
    "near": ((("?endless", "?endless"), ask_near),),
    "nears": ((("?endless",), ask_nears),),
    "far": ((("?endless", "?endless"), ask_far),),
    "fewest": ((("?text", "?text"), ask_fewest),),
    "way": ((("?text", "?text"), ask_way),),
    "paper": (
        (("kind", "?word"), paper_of_kind),
        (("order", "?word"), paper_of_order),
        (("round", "?word"), paper_of_round),
        (("core",), paper_of_core),
        (("near", "?endless", "?endless"), paper_of_near),
    ),
}
