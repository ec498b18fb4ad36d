"""Short files for the check of what operators, properties and the like may do."""


def operator(*rows):
    """A class with an operator of these rows, and one that keeps an attribute called like a method of lists."""
    body = "".join(f"        {row}\n" for row in rows)
    kept = "class Kept:\n    def __init__(self, index):\n        self.index = index\n"
    return f"{kept}class C:\n    def __add__(self, other):\n{body}"


def helper(*rows):
    """A class whose operator calls a function of these rows."""
    body = "".join(f"    {row}\n" for row in rows)
    return operator("return helper(other)") + f"def helper(x):\n{body}"


def beside(method):
    """A class with one method more, which no operator calls by its name."""
    return f"class D:\n    def {method}(self, other):\n        return self\n"


# Whether it is reached by an operator, a property or the like shows in what is told for METHOD.
SHOP = """
class Shop:
    def __init__(self):
        self._many = 0
    def looked(self):
        self._many = self._many + 1
        return self._many
    def METHOD:
        return self.looked()
"""

# What the check calls a fault, and files that have just one of it.
NOT_CALM = {
    "attribute": [
        operator("self.at = 1"),
        operator("del self.at"),
        operator("for self.at in other:", "    pass"),
        operator("self.at, b = 1, 2"),
        helper("x.at = 1"),
        helper("y = x", "y.at = 1"),
        helper("y = []", "y.at = 1"),
        operator("return Made(self)") + "class Made:\n    def __init__(self, x):\n        x.at = 1\n",
        operator("return Made()") + "class Made:\n    def __init__(self):\n        self.at = 1\n        del self.at\n",
        operator("return Made()") + "class Base:\n    def __init__(self):\n        box = self\n        box.at = 1\n"
                                    "class Made(Base):\n    pass\n",
        "class C:\n    def __init__(self, x):\n        x.at = 1\n    @classmethod\n    def of(cls, x):\n"
        "        return cls(x)\n    def __neg__(self):\n        return C.of(self)",
        "class C:\n    @property\n    def far(self):\n        return self.near()\n    def near(self):\n        self.at = 1",
        "class C:\n    @property\n    def far(self):\n        return sorted([1], key=self.near)\n"
        "    def near(self, x):\n        self.at = 1",
        operator("return max([1], key=late)") + "def late(x):\n    x.at = 1\n",
        operator("return first(other)") + "def first(x):\n    return late(x)\ndef late(x):\n    x.at = 1\n",
    ],
    "item": [
        operator("self.rows[0] = 1"),
        operator("del self.rows[0]"),
        operator("self[0] = 1"),
        helper("x[0] = 1"),
        helper("del x[0]"),
        helper("x[0], y = 1, 2"),
        helper("y = x", "y[0] = 1"),
        helper("y = []", "y = x", "y[0] = 1"),
        helper("y, z = [], []", "y[0] = 1"),
        helper("y = {k: 1 for k in x}", "y[0] = 1"),
        helper("y = x | {}", "y[0] = 1"),
        helper("y = [] if x else [1]", "y[0] = 1"),
        helper("y = x.copy()", "y[0] = 1"),
        helper("for y in x:", "    y[0] = 1"),
        helper("y = [x]", "for y in x:", "    pass", "y[0] = 1"),
        helper("y = []", "if (y := x):", "    y[0] = 1"),
        helper("y = []", "with_y = y", "with_y[0] = 1"),
        helper("y = []", "def inner():", "    y[0] = 1", "return inner()"),
    ],
    "change": [
        *[helper(f"x.{name}(1)") for name in "append extend insert pop remove clear reverse setdefault update".split()],
        *[helper("y = []", f"y.{name}(1)") for name in ("sort", "add", "discard")],
        helper("seen = set()", "seen.add(1)"),
        operator("self.rows.append(1)"),
        helper("y = x", "y.append(1)"),
        helper("y = {k: 1 for k in x}", "y.update(x)"),
        helper("y = list(x)", "y[0].append(1)"),
        helper("y = []", "return [y.append(k) for y in x for k in y]"),
        helper("y = []", "return [(lambda: y.append(1)) for k in x]"),
        helper("heappush(x, 1)"),
        "class C:\n    def __len__(self):\n        self.rows.pop()\n        return len(self.rows)",
        "class C:\n    def __eq__(self, other):\n        return other.rows.pop() == 1",
        "class C:\n    def __repr__(self):\n        return str(self.rows.pop())",
        "class C:\n    def __rmul__(self, other):\n        return other.pop()",
        "class A:\n    def told(self):\n        return 1\nclass B:\n    def told(self):\n        self.rows.append(1)\n"
        "class C:\n    def __abs__(self):\n        return self.told()",
    ],
    "sum": [
        helper("x += 1"),
        helper("k = x", "k += x"),
        helper("k = 0", "k = x", "k += x"),
        helper("k = [x]", "k += x"),
        helper("for k in x:", "    k += x"),
        helper("k = x", "k *= 2"),
        helper("k = 5", "k %= 2"),
        helper("k = 5", "k |= 2"),
        helper("k = 5", "k **= 2"),
        helper("k = 5", "k += 1") + beside("__iadd__"),
        helper("k = 5", "k += x") + beside("__radd__"),
        helper("k = 5", "k -= 1") + beside("__isub__"),
        helper("k = 5", "k //= 2") + beside("__ifloordiv__"),
        helper("k = 5", "k *= x") + beside("__imul__"),
        helper("k = 5", "k *= x") + beside("__rmul__"),
    ],
    "local call": [
        operator("return other(1)"),
        helper("return x(1)"),
        helper("y = x", "return y(1)"),
        helper("for y in x:", "    y(1)"),
        helper("return [y(1) for y in x]"),
        helper("return [(lambda: x(1)) for y in x]"),
        helper("return sorted(x, key=lambda call: call(1))"),
    ],
    "kept call": [
        operator("return self.index(1)"),
        helper("return x.index(1)"),
        operator("return self.far()") + "    @property\n    def far(self):\n        return 1\n",
        operator("return self.LIMIT()") + "    LIMIT = 1\n",
        "class Kept:\n    def __init__(self, index):\n        self.index = index\nclass D:\n    def __init__(self, x):\n"
        "        self.at = x.index(1)\nclass C:\n    def __str__(self):\n        return str(D(self))",
    ],
    "other call": [
        operator("return self[0](1)"),
        helper("return x[0](1)"),
        helper("return near()(1)") + "def near():\n    return 1\n",
    ],
    "map": [helper("return list(map(str, x))")],
    "with": [helper("with x as y:", "    pass")],
    "yield": [helper("yield x")],
    "yieldfrom": [helper("yield from x")],
    "nonlocal": [helper("y = 1", "def inner():", "    nonlocal y", "    y = 2", "return inner()")],
}

CALM_EXAMPLES = [
    operator("rows = []", "rows.append(1)", "rows[0] = 2", "del rows[0]", "return rows"),
    operator("rows = list(other)", "rows.pop()", "rows.extend(other)", "return rows"),
    operator("rows = sorted(other)", "rows.reverse()", "return rows"),
    operator("rows = [k for k in other]", "rows[0] = 1"),
    operator("rows = dict(other)", "rows.update(other)", "rows.setdefault(1, 2)", "rows[1] = 2"),
    operator("heap = []", "heappush(heap, 1)"),
    operator("k = 0", "k += 1", "k -= other", "k //= other", "return k"),
    operator("k = ''", "k += str(other)", "return k"),
    operator("k = []", "k += [other]", "return k"),
    operator("k = 2", "k *= 3", "return k"),
    operator("return Made(1)") + "class Made:\n    def __init__(self, x):\n        self.at = x\n        self.rows = [x]\n",
    operator("def inner(x):", "    rows = []", "    rows.append(x)", "    return rows", "return inner(other)"),
    operator("return sorted(other, key=lambda x: x + 1)"),
    operator("return helper(other)") + "def helper(x):\n    return x.count(1)\n",
    # What no operator and no property reaches may do all of this.
    "class C:\n    def far(self, call):\n        self.at = call(1)\n        self.rows.append(1)\n        return self",
    "class C:\n    def __iadd__(self, other):\n        self.rows.append(other)\n        return self",
    "class C:\n    def __setitem__(self, at, worth):\n        self.rows[at] = worth",
    "class C:\n    @far.setter\n    def far(self, value):\n        self.at = value",
    "class C:\n    def __init__(self):\n        self.index = 1\ndef f(x):\n    return x.index(1)",
]
