"""Finds code of the package that leaves the part of Python it keeps to.

Each finding is a text "RULE line: what". Not every rule is seen here, and none of them in full;
what is found is outside of the rule for sure.
"""

import ast
import builtins
import re

PACKAGE = "mixplay"

STATEMENTS = (
    ast.Assign, ast.AugAssign, ast.If, ast.While, ast.For, ast.Return, ast.Break, ast.Continue,
    ast.Pass, ast.Raise, ast.Try, ast.Expr, ast.FunctionDef, ast.ClassDef, ast.ImportFrom,
)
EXPRESSIONS = (
    ast.Constant, ast.List, ast.Tuple, ast.Dict, ast.Set, ast.BinOp, ast.UnaryOp, ast.Compare,
    ast.BoolOp, ast.IfExp, ast.Call, ast.Attribute, ast.Subscript, ast.Slice, ast.ListComp,
    ast.JoinedStr, ast.FormattedValue, ast.Name, ast.Lambda,
)
CALLED = set("""len range enumerate zip min max sum abs sorted reversed int str bool list tuple dict set
    frozenset isinstance ord repr any all divmod""".split())
ERRORS = set("""Exception ValueError TypeError KeyError IndexError LookupError ZeroDivisionError
    ArithmeticError OverflowError RuntimeError NotImplementedError AttributeError StopIteration""".split())
METHODS = set("""append clear copy count endswith extend find get index insert isalnum isalpha isdigit
    islower isspace isupper items join keys ljust lower lstrip partition pop remove replace reverse
    rfind rjust rpartition rsplit rstrip setdefault split splitlines startswith strip update upper
    values zfill bit_length""".split())
DOUBLE = set("__init__ __eq__ __repr__ __str__ __len__".split())
WORDS = re.compile(r"\b(type|typing|typing_extensions|enum|Enum|IntEnum|StrEnum|Flag|IntFlag|Generic|"
                   r"Protocol|ABC|ABCMeta|namedtuple|NamedTuple|TypedDict|TYPE_CHECKING|abstractmethod)\b|"
                   r"dataclass|overload|contextmanager")
UNUSED = set("""register mro elements open input version_info with_traceback add_note format format_map
    chr args sys os""".split())
WALKED = set("zip enumerate reversed range".split())
WALKERS = set("list tuple dict sorted sum any all enumerate zip min max".split())


def found_in_text(text):
    found = []
    lines = text.split("\n")
    if len(lines) > 401:
        found.append("L10 401: the file has more than 400 lines")
    for number, line in enumerate(lines, start=1):
        if len(line) > 120:
            found.append(f"L10 {number}: more than 120 characters")
        if re.search("[^ -~]", line):
            found.append(f"L14 {number}: a sign that is none from the blank to ~")
        if WORDS.search(line):
            found.append(f"L17 {number}: a word that stands nowhere")
    return found


class Finder:
    def __init__(self, tree, own_methods):
        self.tree = tree
        self.own_methods = own_methods
        self.found = []
        self.imported = self.names_of_imports()
        self.classes = {node.name for node in tree.body if isinstance(node, ast.ClassDef)}
        self.bound = self.bound_names()
        self.parents = {}
        for node in ast.walk(tree):
            for child in ast.iter_child_nodes(node):
                self.parents[child] = node

    def say(self, rule, node, what):
        self.found.append(f"{rule} {getattr(node, 'lineno', 1)}: {what}")

    def names_of_imports(self):
        names = set()
        for node in self.tree.body:
            if isinstance(node, ast.ImportFrom):
                names.update(alias.asname or alias.name for alias in node.names)
        return names

    def bound_names(self):
        names = set(self.imported)
        for node in ast.walk(self.tree):
            if isinstance(node, (ast.FunctionDef, ast.ClassDef)):
                names.add(node.name)
            elif isinstance(node, ast.arg):
                names.add(node.arg)
            elif isinstance(node, ast.Name) and isinstance(node.ctx, ast.Store):
                names.add(node.id)
            elif isinstance(node, ast.ExceptHandler) and node.name:
                names.add(node.name)
        return names

    def run(self):
        self.top()
        for node in ast.walk(self.tree):
            if isinstance(node, ast.stmt):
                self.statement(node)
            elif isinstance(node, ast.expr):
                self.expression(node)
            elif isinstance(node, ast.arg):
                self.binding(node, node.arg)
            elif isinstance(node, ast.ExceptHandler):
                self.handler(node)
            elif isinstance(node, ast.comprehension) and node.is_async:
                self.say("L6", self.tree, "async")
        return self.found

    def top(self):
        once = []
        for number, node in enumerate(self.tree.body):
            if isinstance(node, ast.Expr):
                if number > 0 or not isinstance(node.value, ast.Constant):
                    self.say("L3", node, "something is done at the top")
            elif isinstance(node, ast.Assign):
                once.extend(target.id for target in node.targets if isinstance(target, ast.Name))
                self.plain_value(node.value)
            elif isinstance(node, (ast.FunctionDef, ast.ClassDef)):
                once.append(node.name)
            elif not isinstance(node, ast.ImportFrom):
                self.say("L3", node, "a statement at the top")
        if len(once) != len(set(once)) or set(once) & self.imported:
            self.say("L15", self.tree, "a name is bound twice at the top")

    def plain_value(self, value):
        allowed = (ast.Constant, ast.List, ast.Tuple, ast.Dict, ast.Name, ast.UnaryOp, ast.USub, ast.Load)
        for node in ast.walk(value):
            if not isinstance(node, allowed):
                self.say("L3", value, "no plain value at the top")
            if node is not value and isinstance(node, (ast.List, ast.Dict)):
                self.say("L15", value, "a list or dict within a value of the top")

    def statement(self, node):
        if isinstance(node, ast.Import):
            self.say("L2", node, "an import of a file as a name")
        elif not isinstance(node, STATEMENTS):
            self.say("L6", node, type(node).__name__)
        if isinstance(node, ast.Assign):
            if len(node.targets) > 1 or not isinstance(node.targets[0], (ast.Name, ast.Attribute, ast.Subscript)):
                self.say("L6", node, "more than one target")
        if isinstance(node, (ast.For, ast.While)) and node.orelse:
            self.say("L6", node, "else behind a loop")
        if isinstance(node, ast.Try) and node.finalbody:
            self.say("L6", node, "finally")
        if isinstance(node, ast.Expr) and not isinstance(node.value, ast.Call) and node is not self.tree.body[0]:
            self.say("L6", node, "an expression by itself that is no call")
        if isinstance(node, ast.Raise) and not isinstance(node.exc, ast.Call):
            self.say("L19", node, "an error that is not made on the spot")
        if isinstance(node, ast.FunctionDef):
            self.function(node)
        if isinstance(node, ast.ClassDef):
            self.klass(node)
        if isinstance(node, ast.ImportFrom):
            self.drawing(node)

    def function(self, node):
        if node.end_lineno - node.lineno + 1 > 40:
            self.say("L10", node, "a function of more than 40 lines")
        given = node.args
        if given.vararg or given.kwarg or given.kwonlyargs or given.posonlyargs or node.decorator_list:
            self.say("L4", node, "parameters that are not plain, or a decorator")
        for default in given.defaults:
            if not isinstance(default, (ast.Constant, ast.UnaryOp, ast.Tuple)):
                self.say("L4", node, "a default that is no plain value")
        if node.returns or any(one.annotation for one in given.args):
            self.say("L21", node, "an annotation")
        self.name(node, node.name)

    def klass(self, node):
        if node not in self.tree.body:
            self.say("L15", node, "a class that is not at the top")
        if len(node.bases) > 1 or node.keywords or node.decorator_list:
            self.say("L5", node, "a class that is not plain")
        methods = [one.name for one in node.body if isinstance(one, ast.FunctionDef)]
        if len(methods) != len(set(methods)):
            self.say("L18", node, "a method stands twice")
        for one in node.body:
            if not isinstance(one, (ast.FunctionDef, ast.Pass)):
                self.say("L5", one, "a value in the class body")
        for name in methods:
            if name.startswith("__") and name not in DOUBLE:
                self.say("L5", node, f"the method {name}")
        self.binding(node, node.name, own=True)

    def drawing(self, node):
        if node not in self.tree.body or node.level or not (node.module or "").startswith(PACKAGE + "."):
            self.say("L2", node, "an import that is not of the package's own, by its full name, at the top")
        if any(alias.name == "*" for alias in node.names):
            self.say("L2", node, "import *")

    def handler(self, node):
        if node.type is None:
            self.say("L6", node, "except of no named class")
        for name in ast.walk(node.type or node):
            if isinstance(name, ast.Name) and name.id in ("Exception", "TypeError"):
                self.say("L19", node, f"except {name.id}")
        if node.name:
            self.binding(node, node.name)

    def expression(self, node):
        if not isinstance(node, EXPRESSIONS):
            self.say("L7", node, type(node).__name__)
        if isinstance(node, ast.Constant) and type(node.value) not in (int, str, bool, type(None)):
            self.say("L7", node, "a value of another kind")
        if isinstance(node, ast.Constant) and isinstance(node.value, str) and "%" in node.value:
            self.say("L27", node, "% within a text")
        if isinstance(node, ast.BinOp):
            self.operator(node)
        if isinstance(node, ast.ListComp) and (len(node.generators) > 1 or len(node.generators[0].ifs) > 1):
            self.say("L7", node, "a comprehension with more than one for, or more than one if")
        if isinstance(node, ast.Compare):
            self.comparison(node)
        if isinstance(node, ast.Name):
            self.used(node)
        if isinstance(node, ast.Attribute):
            self.attribute(node)
        if isinstance(node, ast.Call):
            self.call(node)
        if isinstance(node, ast.FormattedValue) and not isinstance(node.value, ast.Name):
            self.say("L7", node, "more than a name within an f-string's braces")

    def operator(self, node):
        if isinstance(node.op, (ast.Div, ast.MatMult)):
            self.say("L7", node, "an operator that is not used")
        if isinstance(node.op, ast.Pow):
            if not isinstance(node.right, ast.Constant) or not 0 <= node.right.value <= 64:
                self.say("L27", node, "an exponent that is not written, or above 64")

    def comparison(self, node):
        for operator, right in zip(node.ops, node.comparators):
            if isinstance(operator, (ast.Is, ast.IsNot)):
                if not isinstance(right, ast.Constant) or right.value not in (None, True, False):
                    self.say("L20", node, "is")

    def used(self, node):
        if isinstance(node.ctx, ast.Store):
            self.binding(node, node.id)
        elif node.id not in self.bound and node.id not in CALLED | ERRORS:
            self.say("L8", node, f"the name {node.id}")
        elif node.id in CALLED and not self.is_called(node):
            self.say("L22", node, f"{node.id} is kept as a value")

    def is_called(self, node):
        above = self.parents[node]
        if isinstance(above, ast.Tuple):
            above = self.parents[above]
        return isinstance(above, ast.keyword) or (
            isinstance(above, ast.Call) and (above.func is node or getattr(above.func, "id", "") == "isinstance"))

    def attribute(self, node):
        self.name(node, node.attr)
        above = self.parents[node]
        if isinstance(above, ast.Call) and above.func is node:
            if node.attr not in METHODS | self.own_methods:
                self.say("L25", node, f"the method {node.attr}")
        elif node.attr in METHODS | self.own_methods:
            self.say("L25", node, f"the method {node.attr} is handed on")

    def call(self, node):
        if any(isinstance(one, ast.Starred) for one in node.args) or any(one.arg is None for one in node.keywords):
            self.say("L7", node, "a star")
        walks = isinstance(node.func, ast.Name) and node.func.id in WALKED
        if isinstance(node.func, ast.Attribute) and node.func.attr in ("items", "keys", "values"):
            walks = True
        if walks and not self.is_walked(node):
            self.say("L23", node, "what is walked is kept")
        if isinstance(node.func, ast.Name) and node.func.id in ("set", "frozenset"):
            if not isinstance(self.parents[node], (ast.Compare, ast.BinOp, ast.Call)):
                self.say("L24", node, "a set is kept")

    def is_walked(self, node):
        above = self.parents[node]
        if isinstance(above, (ast.For, ast.comprehension)):
            return above.iter is node
        if not isinstance(above, ast.Call):
            return False
        if isinstance(above.func, ast.Attribute):
            return above.func.attr == "join" and isinstance(above.func.value, ast.Constant)
        return getattr(above.func, "id", "") in WALKERS

    def binding(self, node, name, own=False):
        self.name(node, name)
        taken = self.imported if own else self.imported | self.classes
        if name in taken or hasattr(builtins, name):
            self.say("L15", node, f"{name} is called like a class, an import or a name of Python's own")

    def name(self, node, name):
        if name.startswith("_") and name not in DOUBLE:
            self.say("L12", node, f"{name} begins with an underscore")
        if name in UNUSED:
            self.say("L17", node, f"{name} is not used")


def methods_of(trees):
    names = set()
    for tree in trees:
        for node in ast.walk(tree):
            if isinstance(node, ast.ClassDef):
                names.update(one.name for one in node.body if isinstance(one, ast.FunctionDef))
    return names


def values_of(trees):
    names = set()
    for tree in trees:
        for node in ast.walk(tree):
            if isinstance(node, ast.Attribute) and isinstance(node.ctx, ast.Store):
                names.add(node.attr)
    return names


def found_in(text, own_methods=None):
    tree = ast.parse(text)
    methods = methods_of([tree]) if own_methods is None else own_methods
    return found_in_text(text) + Finder(tree, methods | DOUBLE).run()
