"""A shop of words of one machine, and of promises about them that are true at all times."""

from textmovers.base.letters import is_name
from textmovers.base.whole import is_passed
from textmovers.errors import (
    Broken, InvalidName, InvalidNumber, InvalidOperation, NothingToUndo, TooMany, UnknownName,
)
from textmovers.grow.busy import check_quiet
from textmovers.machine.machines import check_machine
from textmovers.move.words import check_word, joined_word, undone_word, word_move
from textmovers.shop.pages import Page
from textmovers.shop.promises import asks_for_quiet, is_promise, is_true, named_by

MAX_KEPT = 8
MAX_PROMISES = 8
SORTS = ("alike", "calm", "idle", "leads", "round", "swap", "times")


class Trial:
    """A block at whose end a shop is as it was at its beginning."""

    def __init__(self, shop):
        self._shop = shop
        self._begun = False
        self._page = None
        self._past = ()
        self._coming = ()

    def __enter__(self):
        if self._begun:
            raise InvalidOperation("a trial is for one block")
        self._begun = True
        self._page = self._shop._page
        self._past = self._shop._past
        self._coming = self._shop._coming
        return self._shop

    def __exit__(self, kind, value, trace):
        self._shop._page = self._page
        self._shop._past = self._past
        self._shop._coming = self._coming


class Shop:
    """Words of one machine under names, and promises about them under labels."""

    def __init__(self, machine):
        check_machine(machine)
        self._machine = machine
        self._page = Page({}, {}, {})
        # The pages that can be taken back to, and those that can be done again, the next one last.
        self._past = ()
        self._coming = ()

    @property
    def machine(self):
        """The machine whose words are kept."""
        return self._machine

    @property
    def names(self):
        """The names of the kept words, ascending."""
        return self._page.order_of_names

    @property
    def labels(self):
        """The labels of the promises, ascending."""
        return self._page.order_of_labels

    @property
    def words(self):
        """The kept words, by their names."""
        return dict(self._page.worded)

    @property
    def promises(self):
        """The promises, by their labels."""
        return dict(self._page.promised)

    def keep(self, name, word):
        """Keeps a word under a name, perhaps in the place of another one."""
        if not is_name(name):
            raise InvalidName("no name for a word")
        check_word(self._machine, word)
        self.turn_to(self.page_with(name, word))

    def link(self, name, one, other):
        """Keeps one kept word and then another one under a name."""
        if not is_name(name):
            raise InvalidName("no name for a word")
        joined = joined_word(self._machine, self[one], self[other])
        self.turn_to(self.page_with(name, joined))

    def turn_back(self, name):
        """Keeps the undone word in the place of a word."""
        self.turn_to(self.page_with(name, undone_word(self._machine, self[name])))

    def drop(self, name):
        """Keeps a word no more."""
        self.check_kept(name)
        if self.promises_about(name):
            raise InvalidOperation(f"a promise names {name}")
        self.turn_to(self._page.without_word(name))

    def promise(self, label, promise):
        """Keeps a promise under a new label."""
        if not is_name(label):
            raise InvalidName("no name for a promise")
        if not is_promise(self._machine.letters, self._page.worded, promise):
            raise InvalidOperation("no promise about kept words")
        if label in self._page.promised:
            raise InvalidOperation(f"there is a promise {label}")
        if len(self._page.promised) == MAX_PROMISES:
            raise TooMany(MAX_PROMISES)
        if asks_for_quiet(promise):
            check_quiet(self._machine)
        if not is_true(promise, self._page.moved):
            raise Broken(label)
        self.turn_to(self._page.with_promise(label, promise))

    def release(self, label):
        """Keeps a promise no more."""
        if not isinstance(label, str) or label not in self._page.promised:
            raise UnknownName(label)
        self.turn_to(self._page.without_promise(label))

    def move(self, name):
        """The move of a kept word."""
        self.check_kept(name)
        return self._page.moved[name]

    def led(self, name, text):
        """The text to which a kept word leads a text."""
        move = self.move(name)
        return move(text)

    def would_break(self, name, word):
        """The labels of the promises that would not be true any more with this word under the name."""
        self.check_kept(name)
        check_word(self._machine, word)
        page = self._page.with_word(name, word, word_move(self._machine, word))
        return tuple([label for label in self.promises_about(name) if not is_true(page.promised[label], page.moved)])

    def undo(self, *, many=1):
        """Takes back so many calls; returns how many can be taken back then."""
        check_many(many, self._past)
        for _ in range(many):
            self._coming = (*self._coming, self._page)
            self._page = self._past[-1]
            self._past = self._past[:-1]
        return len(self._past)

    def redo(self, *, many=1):
        """Does so many calls again; returns how many can be taken back then."""
        check_many(many, self._coming)
        for _ in range(many):
            self._past = (*self._past, self._page)
            self._page = self._coming[-1]
            self._coming = self._coming[:-1]
        return len(self._past)

    def trial(self):
        """A block at whose end the shop is as it was at its beginning."""
        return Trial(self)

    def during(self, call):
        """What a call with the shop returns; behind it the shop is as it was."""
        with self.trial() as same:
            return call(same)

    def twin(self):
        """An independent copy."""
        other = Shop(self._machine)
        other._page = self._page
        other._past = self._past
        other._coming = self._coming
        return other

    def check_kept(self, name):
        """Refuses what is no name of a kept word."""
        if name not in self:
            raise UnknownName(name)

    def promises_about(self, name):
        """The labels of the promises that name a word, ascending."""
        promised = self._page.promised
        return [label for label in self._page.order_of_labels if name in named_by(promised[label])]

    def page_with(self, name, word):
        """The page with a word under a name; refuses a word that makes it too great, or breaks a promise."""
        if name not in self and len(self) == MAX_KEPT:
            raise TooMany(MAX_KEPT)
        page = self._page.with_word(name, word, word_move(self._machine, word))
        for label in self.promises_about(name):
            if not is_true(page.promised[label], page.moved):
                raise Broken(label)
        return page

    def turn_to(self, page):
        """Keeps what stands on a page from now on."""
        self._past = (*self._past, self._page)
        self._coming = ()
        self._page = page

    def __getitem__(self, at):
        if at not in self:
            raise UnknownName(at)
        return self._page.worded[at]

    def __contains__(self, value):
        return isinstance(value, str) and value in self._page.worded

    def __len__(self):
        return len(self._page.worded)

    def __iter__(self):
        return iter(self._page.order_of_names)

    def __eq__(self, other):
        if not isinstance(other, Shop) or self._machine != other._machine:
            return False
        return (self._page.worded, self._page.promised) == (other._page.worded, other._page.promised)

    def __str__(self):
        return f"shop of {len(self._page.worded)} words, {len(self._page.promised)} promises"


def check_many(many, pages):
    """Refuses what is no number of calls, and more calls than there are."""
    if not is_passed(many) or many < 0:
        raise InvalidNumber(many)
    if many > len(pages):
        raise NothingToUndo(many)


def begun_anew(shop):
    """The same shop, but with nothing to take back."""
    other = shop.twin()
    other._past = ()
    other._coming = ()
    return other
