"""What operators, properties and the like may do, through all that they call (L5 Operators, L5 Properties).

The rule is read by names alone: a call of a method counts as a call of each
method of this name that a class of the package has.
"""

import ast

# The operators of L5 but the in-place ones and __setitem__, and what is held to the same.
SIGNS = "add sub mul floordiv mod pow and or xor lshift rshift".split()
CALM = {
    *[f"__{name}__" for name in "lt le gt ge ne neg pos invert abs bool contains getitem eq str repr len".split()],
    *[f"__{name}__" for name in SIGNS], *[f"__r{name}__" for name in SIGNS],
}

CHANGING = {"append", "extend", "insert", "pop", "remove", "clear", "reverse", "setdefault", "update"}
ALWAYS_CHANGING = {"sort", "add", "discard"}
HEAPS = {"heappush", "heappop", "heapify", "heapreplace", "heappushpop"}
MAKERS = {"list", "dict", "sorted"}

FUNCTIONS = (ast.FunctionDef, ast.AsyncFunctionDef)
SCOPES = (*FUNCTIONS, ast.Lambda)


class Told:
    """What the files of a package tell by names: functions, classes, methods, kept attributes and properties."""

    def __init__(self, trees):
        nodes = [node for tree in trees for node in ast.walk(tree)]
        self.classes = {node.name: node for node in nodes if isinstance(node, ast.ClassDef)}
        self.methods = {}
        self.owners = {}
        for owner in self.classes.values():
            for node in owner.body:
                if isinstance(node, FUNCTIONS):
                    self.methods.setdefault(node.name, []).append(node)
                    self.owners[node] = owner
        self.functions = {}
        for node in nodes:
            if isinstance(node, FUNCTIONS) and node not in self.owners:
                self.functions.setdefault(node.name, []).append(node)
        self.kept = {node.attr for node in nodes if isinstance(node, ast.Attribute) and isinstance(node.ctx, ast.Store)}
        for owner in self.classes.values():
            for node in owner.body:
                if isinstance(node, ast.Assign):
                    self.kept |= {target.id for target in node.targets if isinstance(target, ast.Name)}
        self.properties = {name for name, found in self.methods.items() if any(map(is_property, found))}

    def inits(self, name):
        """The __init__ that a call of a class runs: its own, or those of the classes above."""
        owner = self.classes[name]
        own = [node for node in owner.body if isinstance(node, FUNCTIONS) and node.name == "__init__"]
        if own:
            return own
        bases = [base.id for base in owner.bases if isinstance(base, ast.Name) and base.id in self.classes]
        return [init for base in bases for init in self.inits(base)]

    def roots(self):
        """The operators, properties and the like of all classes."""
        return [
            node for found in self.methods.values() for node in found if node.name in CALM or is_property(node)
        ]


def is_property(function):
    return any(isinstance(one, ast.Name) and one.id == "property" for one in function.decorator_list)


def calm_faults(trees):
    """What breaks the rule: tuples (function, line, what)."""
    told = Told(trees)
    reached = told.roots()
    faults = []
    for function in reached:
        scopes = [Scope(told, function, None)]
        for scope in scopes:
            faults.extend(fault for fault in scope.faults() if fault not in faults)
            scopes.extend(Scope(told, inner, scope) for inner in scope.inner)
            reached.extend(node for node in scope.called() if node not in reached)
    return faults


class Scope:
    """A function, a nested function or a lambda, without those that are nested in it."""

    def __init__(self, told, function, outer):
        self.told = told
        self.function = function
        self.outer = outer
        self.owner = told.owners.get(function) or (outer.owner if outer else None)
        self.name = getattr(function, "name", "lambda")
        self.nodes = []
        self.inner = []
        body = function.body if isinstance(function.body, list) else [function.body]
        waiting = list(body)
        while waiting:
            node = waiting.pop()
            self.nodes.append(node)
            if isinstance(node, SCOPES):
                self.inner.append(node)
            else:
                waiting.extend(ast.iter_child_nodes(node))
        args = function.args
        plain = [*args.posonlyargs, *args.args, *args.kwonlyargs, args.vararg, args.kwarg]
        self.parameters = [one.arg for one in plain if one]
        self.made = {}
        self.find_bound()

    def find_bound(self):
        """For each local variable the values that plain statements assign to it, None for any other assignment."""
        for name in self.parameters:
            self.made.setdefault(name, []).append(None)
        plain = set()
        for node in self.nodes:
            if isinstance(node, ast.Assign):
                for target in node.targets:
                    if isinstance(target, ast.Name):
                        plain.add(target)
                        self.made.setdefault(target.id, []).append(node.value)
            elif isinstance(node, ast.AnnAssign) and isinstance(node.target, ast.Name):
                plain.add(node.target)
                self.made.setdefault(node.target.id, []).append(node.value)
            elif isinstance(node, ast.AugAssign):
                plain.add(node.target)
        for node in self.nodes:
            if isinstance(node, ast.Name) and not isinstance(node.ctx, ast.Load) and node not in plain:
                self.made.setdefault(node.id, []).append(None)
            elif isinstance(node, ast.ExceptHandler) and node.name:
                self.made.setdefault(node.name, []).append(None)
            elif isinstance(node, (ast.MatchAs, ast.MatchStar)) and node.name:
                self.made.setdefault(node.name, []).append(None)

    def is_local(self, name):
        return name in self.made or self.outer is not None and self.outer.is_local(name)

    def is_own(self, node):
        """Whether this is a list or dict that the function made, and that is assigned nothing else there."""
        if not isinstance(node, ast.Name) or node.id not in self.made:
            return False
        return all(is_made(value) for value in self.made[node.id])

    def called(self):
        """The functions that are called, by their names alone."""
        for node in self.nodes:
            for name in called_names(node):
                if name in self.told.classes:
                    yield from self.told.inits(name)
                elif name == "cls" and self.owner is not None:
                    yield from self.told.inits(self.owner.name)
                elif not self.is_local(name):
                    yield from self.told.functions.get(name, [])
            for name in called_methods(node):
                yield from self.told.methods.get(name, [])

    def faults(self):
        for node in self.nodes:
            for what in self.faults_of(node):
                yield self.name, node.lineno, what

    def faults_of(self, node):
        """What this statement or expression does that it may not do."""
        if isinstance(node, (ast.With, ast.Yield, ast.YieldFrom, ast.Nonlocal, ast.Global)):
            yield type(node).__name__.lower()
        elif isinstance(node, ast.AugAssign):
            if not self.may_add(node):
                yield "sum"
        elif isinstance(node, ast.Attribute) and not isinstance(node.ctx, ast.Load):
            if not self.is_new_self(node):
                yield "attribute"
        elif isinstance(node, ast.Subscript) and not isinstance(node.ctx, ast.Load):
            if not self.is_own(node.value):
                yield "item"
        elif isinstance(node, ast.Call):
            yield from self.call_faults(node)

    def is_new_self(self, node):
        """Whether an __init__ assigns an attribute of its own object."""
        if not isinstance(node.ctx, ast.Store) or self.name != "__init__" or self.outer is not None:
            return False
        return isinstance(node.value, ast.Name) and node.value.id == self.parameters[0]

    def call_faults(self, node):
        what = node.func
        if isinstance(what, ast.Name):
            if self.is_called_local(what.id):
                yield "local call"
            if what.id == "map":
                yield "map"
            if what.id in HEAPS and not self.is_own(node.args[0]):
                yield "change"
        elif isinstance(what, ast.Attribute):
            if what.attr in self.told.kept or what.attr in self.told.properties:
                yield "kept call"
            elif what.attr in CHANGING and not self.is_own(what.value) or what.attr in ALWAYS_CHANGING:
                yield "change"
        else:
            yield "other call"

    def is_called_local(self, name):
        """Whether the name is that of a parameter or a local variable, but not the class of a class method."""
        nested = [one.name for one in self.inner if isinstance(one, FUNCTIONS)]
        if name in nested or name == "cls" and self.parameters[:1] == ["cls"]:
            return False
        return self.is_local(name)

    def may_add(self, node):
        """Whether L5 Operators allows this += or the like."""
        name = node.target
        if not isinstance(name, ast.Name) or name.id not in self.made or name.id in self.parameters:
            return False
        values = self.made[name.id]
        methods = self.told.methods
        if isinstance(node.op, ast.Add):
            if "__iadd__" in methods:
                return False
            if is_literal(node.value, int):
                return True
            return "__radd__" not in methods and all(is_literal(one, (int, str)) or is_new_list(one) for one in values)
        if isinstance(node.op, ast.Sub):
            return "__isub__" not in methods
        if isinstance(node.op, ast.FloorDiv):
            return "__ifloordiv__" not in methods
        if isinstance(node.op, ast.Mult):
            plain = "__imul__" not in methods and "__rmul__" not in methods
            return plain and all(is_literal(one, (int, str)) for one in values)
        return False


def called_names(node):
    """The bare names that are called here, or handed to a builtin that calls them."""
    if not isinstance(node, ast.Call):
        return
    if isinstance(node.func, ast.Name):
        yield node.func.id
        if node.func.id == "map" and node.args and isinstance(node.args[0], ast.Name):
            yield node.args[0].id
    for one in node.keywords:
        if one.arg == "key" and isinstance(one.value, ast.Name):
            yield one.value.id


def called_methods(node):
    """The methods that are called here, or handed to a builtin that calls them."""
    if isinstance(node, ast.Call):
        handed = [one.value for one in node.keywords if one.arg == "key"]
        yield from (one.attr for one in [node.func, *handed] if isinstance(one, ast.Attribute))


def is_made(value):
    """Whether a value is a new list or dict, as L5 Operators counts them."""
    if isinstance(value, (ast.List, ast.Dict, ast.ListComp)):
        return True
    return isinstance(value, ast.Call) and isinstance(value.func, ast.Name) and value.func.id in MAKERS


def is_new_list(value):
    if isinstance(value, ast.List):
        return not value.elts
    return isinstance(value, ast.Call) and isinstance(value.func, ast.Name) and value.func.id == "list"


def is_literal(value, kinds):
    if isinstance(value, ast.UnaryOp) and isinstance(value.op, ast.USub):
        value = value.operand
    return isinstance(value, ast.Constant) and isinstance(value.value, kinds) and not isinstance(value.value, bool)
