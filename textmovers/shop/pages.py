"""What a shop keeps at one time. A page never changes, so shops can have pages in common."""


class Page:
    """Words with their moves, by their names, and promises by their labels, both ascending."""

    def __init__(self, worded, moved, promised):
        self.order_of_names = tuple(sorted([str(name) for name in worded]))
        self.worded = {name: worded[name] for name in self.order_of_names}
        self.moved = {name: moved[name] for name in self.order_of_names}
        self.order_of_labels = tuple(sorted([str(label) for label in promised]))
        self.promised = {label: promised[label] for label in self.order_of_labels}

    def with_word(self, name, word, move):
        """The page with a word more, or with another one in its place."""
        return Page({**self.worded, name: word}, {**self.moved, name: move}, self.promised)

    def without_word(self, name):
        """The page without a word."""
        worded = {one: self.worded[one] for one in self.worded if one != name}
        return Page(worded, self.moved, self.promised)

    def with_promise(self, label, promise):
        """The page with a promise more."""
        return Page(self.worded, self.moved, {**self.promised, label: promise})

    def without_promise(self, label):
        """The page without a promise."""
        return Page(self.worded, self.moved, {one: self.promised[one] for one in self.promised if one != label})
