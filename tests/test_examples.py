"""The examples of the document, word for word."""

import unittest

from run_examples import run_examples
from support import FOLDED, GRAY, HANOI, LAMP, ODD
from textmovers.base.letters import index_of, is_text, is_turn, text_at, texts
from textmovers.machine.machines import Machine

LETTERS = """
>>> [is_text(2, "0110"), is_text(2, "012"), is_turn(3, (1, 2, 0)), is_turn(3, (1, 1, 0)), text_at(3, 2, 5), index_of(2, "0110"), list(texts(2, 2)), list(texts(4, 0))]
[True, False, True, False, '12', 6, ['00', '01', '10', '11'], ['']]
"""

MACHINES = """
>>> [str(ODD), ODD.step("a", "110"), ODD.step("e", "01"), GRAY.step("b", "0010"), HANOI.step("c", "0012"), (~ODD).step("a", "001"), ODD == Machine(2, {"e": ((0, 1), ("e", "e")), "a": ((1, 0), ("e", "a"))})]
['machine of 2 letters: a 10 e a, e 01 e e', ('001', 'e'), ('01', 'e'), ('0011', 'e'), ('0022', 'e'), ('110', 'e'), True]
>>> [(~LAMP).nexts("a"), str(folded()), HANOI.part("a").states, len(GRAY.with_state("x", (1, 0), ("x", "b"))), "e" in LAMP, ODD.renamed({"a": "e", "e": "a"}) == ODD]
[('b', 'a'), 'machine of 2 letters: a 10 e b, b 01 e a, e 01 e e', ('a', 'e'), 4, False, False]
"""


class Examples(unittest.TestCase):

    def test_letters(self):
        names = {
            "is_text": is_text, "is_turn": is_turn, "text_at": text_at, "index_of": index_of, "texts": texts,
        }
        self.assertEqual(run_examples(LETTERS, names), 1)

    def test_machines(self):
        names = {
            "Machine": Machine, "ODD": ODD, "GRAY": GRAY, "HANOI": HANOI, "LAMP": LAMP, "folded": lambda: FOLDED,
        }
        self.assertEqual(run_examples(MACHINES, names), 2)
