"""Finds what in the package's files breaks LANGUAGE.md.

It lets by less than LANGUAGE.md does: forms that the package has no need of (sets, lambdas, try, match, with,
generators, decorators, annotations, bytes ..) are faults here, too, under the number of the rule that names them.
A fault is a tuple (rule, file, line, words).
"""

import ast
import builtins
import io
import keyword
import re
import tokenize
import warnings

PACKAGE = "bendtables"

CALLED_BUILTINS = {
    "len", "range", "enumerate", "zip", "min", "max", "sum", "abs", "sorted", "reversed", "int", "str", "bool", "list",
    "tuple", "dict", "set", "isinstance", "ord", "repr", "any", "all", "divmod",
}
ERROR_BUILTINS = {"ValueError", "Exception", "KeyError", "IndexError", "LookupError", "ArithmeticError", "RuntimeError"}
KIND_NAMES = {"int", "str", "bool", "bytes", "list", "tuple", "dict"}
BUILTIN_KEYWORDS = {
    "sorted": {"key", "reverse"}, "min": {"key", "default"}, "max": {"key", "default"},
    "sum": {"start"}, "enumerate": {"start"}, "zip": {"strict"},
}
VALUE_METHODS = set(
    "append clear copy count endswith extend find get index insert isalnum isalpha isdigit islower isspace isupper items "
    "join keys ljust lower lstrip partition pop remove replace reverse rfind rjust rpartition rsplit rstrip setdefault "
    "split splitlines startswith strip update upper values zfill bit_length title capitalize swapcase casefold center "
    "expandtabs removeprefix removesuffix rindex isascii isdecimal isnumeric istitle isidentifier isprintable".split()
)
MODIFYING = set("append clear extend insert pop remove reverse setdefault update sort".split())
FREE_METHOD_NAMES = (VALUE_METHODS & set(dir(list) + dir(dict) + dir(str) + dir(int))) | {"add", "discard"}
FREE_ATTRIBUTE_NAMES = set("count index title find get join lower upper split strip copy add".split())
VALUE_NAMES = set(dir(str) + dir(int) + dir(list) + dir(dict) + dir(set) + dir(bytes) + dir(tuple))
AT_ONCE = {"zip", "enumerate", "reversed", "range"}
AT_ONCE_METHODS = {"items", "keys", "values"}
TAKES_AT_ONCE = {"list", "tuple", "dict", "sorted", "sum", "any", "all", "enumerate", "zip", "min", "max"}
TAKES_GENERATOR = {"list", "tuple", "dict", "sorted", "sum", "min", "max", "any", "all"}
BARRED_NAMES = {
    "register", "mro", "elements", "open", "input", "version_info", "with_traceback", "add_note", "attrgetter",
    "breakpoint", "builtins", "compile", "copyright", "credits", "delattr", "dir", "eval", "exec", "exit", "gc", "getattr",
    "globals", "hasattr", "help", "id", "importlib", "license", "locals", "methodcaller", "os", "quit", "setattr",
    "type", "vars", "sys", "format", "format_map", "args", "encode", "decode", "hex", "fromhex",
}
FRAME_NAME = re.compile(r"(f|tb|co|gi|cr|ag)_[a-z]+$")
BARRED_WORDS = re.compile(
    r"\b(type|typing|typing_extensions|enum|Enum|IntEnum|StrEnum|Flag|IntFlag|Generic|Protocol|ABC|ABCMeta|namedtuple"
    r"|NamedTuple|TypedDict|TYPE_CHECKING|abstractmethod)\b|dataclass|overload|contextmanager"
)
PLAIN_NAME = re.compile(r"[A-Za-z][A-Za-z0-9_]*$")
FILE_NAME = re.compile(r"([a-z][a-z0-9_]*|__init__)\.py$")
STATEMENTS = (
    ast.Assign, ast.AugAssign, ast.If, ast.While, ast.For, ast.Return, ast.Break, ast.Continue, ast.Pass, ast.Raise,
    ast.Assert, ast.Expr,
)
EXPRESSIONS = (
    ast.BoolOp, ast.BinOp, ast.UnaryOp, ast.IfExp, ast.Dict, ast.ListComp, ast.DictComp, ast.GeneratorExp, ast.Compare,
    ast.Call, ast.JoinedStr, ast.FormattedValue, ast.Constant, ast.Attribute, ast.Subscript, ast.Starred, ast.Name,
    ast.List, ast.Tuple, ast.Slice,
)
OPERATORS = (
    ast.Add, ast.Sub, ast.Mult, ast.FloorDiv, ast.Mod, ast.Pow, ast.LShift, ast.RShift, ast.BitOr, ast.BitAnd, ast.BitXor,
    ast.And, ast.Or, ast.Not, ast.USub, ast.Invert, ast.Eq, ast.NotEq, ast.Lt, ast.LtE, ast.Gt, ast.GtE, ast.Is, ast.IsNot,
    ast.In, ast.NotIn,
)


def faults_of(sources):
    """All faults of a package, given as a dict of its files' texts by their names."""
    found = []
    trees = {}
    for name in sorted(sources):
        found += text_faults(name, sources[name])
        with warnings.catch_warnings():
            warnings.simplefilter("error")
            try:
                trees[name] = ast.parse(sources[name])
            except (SyntaxError, SyntaxWarning, DeprecationWarning) as error:
                found.append(("L27", name, 1, f"Python says: {error}"))
    package = Package(trees)
    found += package.faults()
    for name in trees:
        found += FileCheck(name, trees[name], package).faults()
    return found


def text_faults(name, text):
    """What is wrong with the signs, the lines and the words of a file."""
    found = []
    if not FILE_NAME.match(name) or name[:-3] in dir(builtins) or re.match(r"(law_.*|tests?|testing|test_.*|site)\.py", name):
        found.append(("L14", name, 1, "the file's name"))
    lines = text.split("\n")
    if len(lines) > 401:
        found.append(("L10", name, 401, "more than 400 lines"))
    for at, line in enumerate(lines, start=1):
        if len(line) > 120:
            found.append(("L10", name, at, "more than 120 characters"))
        if any(not " " <= sign <= "~" for sign in line):
            found.append(("L14", name, at, "a character that is not from the blank to ~"))
        if BARRED_WORDS.search(line):
            found.append(("L17", name, at, "a barred word"))
    return found + string_faults(name, text)


def string_faults(name, text):
    """What is wrong with the strings of a file, as they are written."""
    found = []
    try:
        tokens = list(tokenize.generate_tokens(io.StringIO(text).readline))
    except (tokenize.TokenError, SyntaxError):
        return [("L27", name, 1, "the file cannot be read")]
    for token in tokens:
        kind = tokenize.tok_name[token.type]
        if kind == "STRING" or kind.startswith("FSTRING"):
            if re.search(r"\\[^nt\\'\"]", re.sub(r"\\\\", "", token.string)) or "\\\n" in token.string:
                found.append(("L27", name, token.start[0], "an escape"))
            if "%" in token.string:
                found.append(("L27", name, token.start[0], "a percent sign in a string"))
            if re.search(r"\._+['\"]+$", token.string):
                found.append(("L27", name, token.start[0], "a string that ends in ._"))
        if kind == "NUMBER" and len(token.string) > 900:
            found.append(("L27", name, token.start[0], "a number of more than 900 digits"))
    return found


def own_name(node):
    """The name that a call calls: `f(..)` or `x.f(..)`."""
    if isinstance(node.func, ast.Name):
        return node.func.id
    if isinstance(node.func, ast.Attribute):
        return node.func.attr
    return None


def is_docstring(node):
    return isinstance(node, ast.Expr) and isinstance(node.value, ast.Constant) and isinstance(node.value.value, str)


def bound_names(node):
    """The names that a target binds."""
    return [part.id for part in ast.walk(node) if isinstance(part, ast.Name) and isinstance(part.ctx, ast.Store)]


def is_plain_value(node):
    """Whether it is a plain value at module level, or arithmetic of such."""
    if isinstance(node, ast.Constant):
        return node.value is None or isinstance(node.value, (int, str))
    if isinstance(node, ast.Tuple):
        return all(is_plain_value(part) for part in node.elts)
    if isinstance(node, ast.UnaryOp):
        return isinstance(node.op, ast.USub) and is_plain_value(node.operand)
    if isinstance(node, ast.BinOp):
        return is_plain_value(node.left) and is_plain_value(node.right)
    return False


class Package:
    """What the files of the package define and import, all together."""

    def __init__(self, trees):
        self.trees = trees
        self.defined = {name: {} for name in trees}
        self.imports = {name: [] for name in trees}
        self.methods = {}
        self.attributes = set()
        for name, tree in trees.items():
            for node in tree.body:
                self.take(name, node)
            for node in ast.walk(tree):
                if isinstance(node, ast.Attribute) and isinstance(node.ctx, ast.Store):
                    self.attributes.add(node.attr)

    def take(self, name, node):
        if isinstance(node, ast.ImportFrom) and node.module is not None and node.module.startswith(PACKAGE + "."):
            self.imports[name].append(node.module.split(".", 1)[1] + ".py")
        if isinstance(node, (ast.FunctionDef, ast.ClassDef)):
            self.defined[name][node.name] = node
        if isinstance(node, ast.ClassDef):
            for part in node.body:
                if isinstance(part, ast.FunctionDef):
                    self.methods.setdefault(part.name, []).append(part)
        if isinstance(node, ast.Assign):
            for bound in bound_names(node):
                self.defined[name][bound] = node

    def classes(self):
        return {bound for names in self.defined.values() for bound, node in names.items() if isinstance(node, ast.ClassDef)}

    def faults(self):
        found = []
        for name in sorted(self.attributes):
            if name in self.methods:
                found.append(("L18", "", 0, f"{name} is a method and an attribute"))
            if name in VALUE_NAMES and name not in FREE_ATTRIBUTE_NAMES:
                found.append(("L26", "", 0, f"the attribute {name}"))
        for name in sorted(self.methods):
            if name in VALUE_NAMES and name not in FREE_METHOD_NAMES and not name.startswith("__"):
                found.append(("L26", "", 0, f"the method {name}"))
        for name in self.imports:
            if name in self.reached(name):
                found.append(("L16", name, 1, "it imports itself, perhaps through others"))
        return found

    def reached(self, name):
        reached = set()
        waiting = list(self.imports[name])
        while waiting:
            one = waiting.pop()
            if one not in reached:
                reached.add(one)
                waiting += self.imports.get(one, [])
        return reached


class FileCheck:
    """The faults of one file."""

    def __init__(self, name, tree, package):
        self.name = name
        self.tree = tree
        self.package = package
        self.found = []
        self.imported = {}
        self.globals = set()
        self.parents = {child: node for node in ast.walk(tree) for child in ast.iter_child_nodes(node)}

    def fault(self, rule, node, words):
        self.found.append((rule, self.name, getattr(node, "lineno", 0), words))

    def faults(self):
        self.check_module()
        for node in ast.walk(self.tree):
            self.check_node(node)
        return self.found

    def check_module(self):
        body = self.tree.body[1:] if self.tree.body and is_docstring(self.tree.body[0]) else self.tree.body
        imports_over = False
        for node in body:
            if isinstance(node, ast.ImportFrom):
                if imports_over:
                    self.fault("L2", node, "an import that does not stand at the top")
                self.check_import(node)
                continue
            imports_over = True
            if isinstance(node, ast.FunctionDef):
                self.bind(node, node.name)
            elif isinstance(node, ast.ClassDef):
                self.bind(node, node.name)
                self.check_class(node)
            elif isinstance(node, ast.Assign) and len(node.targets) == 1 and isinstance(node.targets[0], ast.Name):
                self.bind(node, node.targets[0].id)
                if not is_plain_value(node.value):
                    self.fault("L3", node, "no plain value")
            elif isinstance(node, ast.Import):
                self.fault("L2", node, "an import of another form")
            else:
                self.fault("L3", node, "it may not stand at module level")
        for node in ast.walk(self.tree):
            if isinstance(node, ast.FunctionDef):
                self.check_function(node)

    def bind(self, node, name):
        if name in self.globals:
            self.fault("L15", node, f"{name} is bound twice")
        if name in dir(builtins):
            self.fault("L8", node, f"{name} is a builtin")
        self.globals.add(name)
        if self.name == "__init__.py":
            self.fault("L16", node, "__init__.py binds a name")

    def check_import(self, node):
        file = (node.module or "").removeprefix(PACKAGE + ".") + ".py"
        if node.level or not (node.module or "").startswith(PACKAGE + ".") or file not in self.package.defined:
            self.fault("L2", node, "it is not imported from a file of the package")
            return
        for alias in node.names:
            if alias.name == "*" or alias.asname:
                self.fault("L2", node, "a star or another name")
            elif alias.name not in self.package.defined[file]:
                self.fault("L16", node, f"{file} does not define {alias.name}")
            else:
                self.imported[alias.name] = self.package.defined[file][alias.name]
            self.bind(node, alias.asname or alias.name)

    def check_class(self, node):
        if node.decorator_list or node.keywords or len(node.bases) > 1:
            self.fault("L5", node, "a decorator, a keyword or several bases")
        for base in node.bases:
            if not isinstance(base, ast.Name) or base.id not in self.package.classes() | ERROR_BUILTINS:
                self.fault("L5", node, "a base that is neither an own class nor an error")
        names = []
        for part in node.body:
            if isinstance(part, ast.FunctionDef):
                names.append(part.name)
            elif not is_docstring(part):
                self.fault("L5", part, "neither a method nor a docstring")
        if len(names) != len(set(names)):
            self.fault("L18", node, "a method defined twice")

    def check_function(self, node):
        parent = self.parents[node]
        if not isinstance(parent, (ast.Module, ast.ClassDef)) and not self.is_nested_once(node):
            self.fault("L4", node, "a function that is nested twice, or not right in the rows of another")
        taken = node.args
        if node.decorator_list or taken.posonlyargs or taken.vararg or taken.kwarg or taken.kwonlyargs:
            self.fault("L4", node, "a decorator, or a star or stroke among the parameters")
        if any(not is_plain_value(value) for value in taken.defaults):
            self.fault("L4", node, "a default that is not plain")
        if node.returns or any(one.annotation for one in taken.args):
            self.fault("L21", node, "an annotation")
        if node.end_lineno - node.lineno + 1 > 40:
            self.fault("L10", node, "more than 40 lines")
        if node.name.startswith("__") and (node.name != "__init__" or not isinstance(parent, ast.ClassDef)):
            self.fault("L5", node, "a double-underscore method")
        if node.name == "__init__":
            for part in ast.walk(node):
                if isinstance(part, ast.Return) and part.value is not None:
                    self.fault("L28", part, "__init__ returns something")
        self.check_names(node)

    def is_nested_once(self, node):
        parent = self.parents[node]
        return isinstance(parent, ast.FunctionDef) and isinstance(self.parents[parent], (ast.Module, ast.ClassDef))

    def own_nodes(self, node):
        """All that stands in a function, but not in those that are nested in it."""
        found = []
        waiting = list(ast.iter_child_nodes(node))
        while waiting:
            part = waiting.pop()
            found.append(part)
            if not isinstance(part, ast.FunctionDef):
                waiting += ast.iter_child_nodes(part)
        return found

    def local_names(self, node):
        local = {one.arg for one in node.args.args}
        for part in self.own_nodes(node):
            if isinstance(part, ast.Name) and isinstance(part.ctx, ast.Store):
                local.add(part.id)
            if isinstance(part, ast.FunctionDef):
                local.add(part.name)
        return local

    def check_names(self, node):
        local = self.local_names(node)
        around = self.local_names(self.parents[node]) if self.is_nested_once(node) else set()
        for name in sorted(local & around):
            self.fault("L4", node, f"{name} is a name of the function around it")
        barred = set(self.imported) | self.package.classes() | set(dir(builtins))
        for name in sorted(local):
            if name in barred:
                self.fault("L15", node, f"{name} is a class, an import or a builtin")
            if name in self.globals:
                self.fault("L15", node, f"{name} is a name of the module")
        known = local | around | self.globals | CALLED_BUILTINS | ERROR_BUILTINS | KIND_NAMES | {"super"}
        for part in self.own_nodes(node):
            if isinstance(part, ast.Name) and part.id not in known:
                self.fault("L8", part, f"{part.id} is not known")

    def check_node(self, node):
        if isinstance(node, ast.stmt):
            self.check_statement(node)
        elif isinstance(node, ast.expr):
            self.check_expression(node)
        elif isinstance(node, (ast.operator, ast.unaryop, ast.cmpop, ast.boolop)) and not isinstance(node, OPERATORS):
            self.fault("L7", self.parents[node], "an operator")
        elif isinstance(node, ast.comprehension):
            self.check_iterated(node.iter)
        for name in self.names_in(node):
            self.check_name(node, name)

    def names_in(self, node):
        if isinstance(node, ast.Name):
            return [node.id]
        if isinstance(node, ast.Attribute):
            return [node.attr]
        if isinstance(node, (ast.FunctionDef, ast.ClassDef)):
            return [node.name]
        if isinstance(node, (ast.arg, ast.keyword)) and node.arg is not None:
            return [node.arg]
        return []

    def check_name(self, node, name):
        if name == "__init__":
            return
        if not PLAIN_NAME.match(name) or keyword.issoftkeyword(name):
            self.fault("L12", node, f"the name {name}")
        if name in BARRED_NAMES or FRAME_NAME.match(name):
            self.fault("L17", node, f"the name {name}")

    def check_statement(self, node):
        if isinstance(node, (ast.FunctionDef, ast.ClassDef, ast.ImportFrom)):
            if isinstance(node, (ast.ClassDef, ast.ImportFrom)) and not isinstance(self.parents[node], ast.Module):
                self.fault("L15", node, "it stands beneath the module level")
            return
        if isinstance(node, ast.Try):
            self.fault("L19", node, "a try")
        elif isinstance(node, ast.AnnAssign):
            self.fault("L21", node, "an annotation")
        elif not isinstance(node, STATEMENTS):
            self.fault("L6", node, f"the statement {node.__class__.__name__}")
        if isinstance(node, ast.Expr) and not isinstance(node.value, ast.Call) and not is_docstring(node):
            self.fault("L6", node, "an expression on its own")
        if isinstance(node, ast.Raise):
            self.check_raise(node)
        if isinstance(node, ast.For):
            self.check_iterated(node.iter)
            self.check_unchanged(node)

    def check_raise(self, node):
        made = node.exc
        if not isinstance(made, ast.Call) or not isinstance(made.func, ast.Name) or node.cause is not None:
            self.fault("L19", node, "an error that is not made on the spot")
        elif made.func.id not in self.package.classes():
            self.fault("L19", node, "no own error")

    def check_iterated(self, node):
        if isinstance(node, ast.Set) or (isinstance(node, ast.Call) and own_name(node) in ("set", "frozenset")):
            self.fault("L24", node, "a set is iterated")

    def check_unchanged(self, node):
        iterated = {part.id for part in ast.walk(node.iter) if isinstance(part, ast.Name)}
        for part in [inner for row in node.body for inner in ast.walk(row)]:
            changed = None
            if isinstance(part, ast.Call) and isinstance(part.func, ast.Attribute) and part.func.attr in MODIFYING:
                changed = part.func.value
            if isinstance(part, ast.Subscript) and isinstance(part.ctx, ast.Store):
                changed = part.value
            if isinstance(changed, ast.Name) and changed.id in iterated:
                self.fault("L23", part, f"{changed.id} is changed while it is iterated")

    def check_expression(self, node):
        if isinstance(node, (ast.Set, ast.SetComp)):
            self.fault("L24", node, "a set")
        elif isinstance(node, ast.Lambda):
            self.fault("L13", node, "a lambda")
        elif not isinstance(node, EXPRESSIONS):
            self.fault("L7", node, f"the expression {node.__class__.__name__}")
        if isinstance(node, ast.Constant) and not (node.value is None or isinstance(node.value, (int, str))):
            self.fault("L7", node, "a literal of another kind")
        if isinstance(node, (ast.ListComp, ast.DictComp, ast.GeneratorExp)) and not self.is_inside_function(node):
            self.fault("L7", node, "a comprehension at module level")
        if isinstance(node, ast.GeneratorExp):
            self.check_generator(node)
        if isinstance(node, ast.FormattedValue) and (node.format_spec or node.conversion not in (-1, ord("r"), ord("s"))):
            self.fault("L7", node, "a format")
        if isinstance(node, ast.Compare):
            self.check_is(node)
        if isinstance(node, ast.BinOp) and isinstance(node.op, ast.Pow):
            exponent = node.right.value if isinstance(node.right, ast.Constant) else None
            if not isinstance(exponent, int) or not 0 <= exponent <= 64:
                self.fault("L27", node, "an exponent that is no literal from 0 to 64")
        if isinstance(node, ast.Call):
            self.check_call(node)
        if isinstance(node, ast.Attribute):
            self.check_attribute(node)
        if isinstance(node, ast.Name) and isinstance(node.ctx, ast.Load):
            self.check_use(node)

    def is_inside_function(self, node):
        while node in self.parents:
            node = self.parents[node]
            if isinstance(node, ast.FunctionDef):
                return True
        return False

    def check_generator(self, node):
        parent = self.parents[node]
        taken = isinstance(parent, ast.Call) and parent.args == [node] and not parent.keywords
        if not taken or own_name(parent) not in TAKES_GENERATOR | {"join"}:
            self.fault("L7", node, "a generator expression that is not taken at once")

    def check_is(self, node):
        for sign, right in zip(node.ops, node.comparators):
            if isinstance(sign, (ast.Is, ast.IsNot)):
                if not isinstance(right, ast.Constant) or right.value not in (None, True, False) or right.value in (0, 1) \
                        and not isinstance(right.value, bool):
                    self.fault("L20", node, "is beside something but None, True and False")

    def check_call(self, node):
        name = own_name(node)
        if isinstance(node.func, ast.Name):
            self.check_plain_call(node, name)
        elif isinstance(node.func, ast.Attribute):
            if isinstance(node.func.value, ast.Call) and own_name(node.func.value) == "super":
                if name != "__init__":
                    self.fault("L5", node, "super() for another method")
                return
            if name not in VALUE_METHODS and name not in self.package.methods:
                self.fault("L25", node, f"the method {name}")
            if name in VALUE_METHODS and name not in self.package.methods and node.keywords:
                self.fault("L25", node, f"{name} with a keyword")
            if name in AT_ONCE_METHODS:
                self.check_at_once(node)
            # Which class it is cannot be seen, so it is enough that one of them takes so many.
            owns = self.package.methods.get(name, [])
            if owns and not any(self.is_count(node, own.args, 1) for own in owns):
                self.fault("L22", node, "not as many arguments as it takes")
        else:
            self.fault("L7", node, "a call of something else than a name or a method")

    def check_plain_call(self, node, name):
        if name in AT_ONCE:
            self.check_at_once(node)
        if name in ("set", "frozenset") and not self.is_counted_set(node):
            self.fault("L24", node, "a set")
        if name in ("bytes", "chr"):
            self.fault("L7" if name == "bytes" else "L27", node, f"{name}(..)")
        if name == "super" and node.args:
            self.fault("L5", node, "super with arguments")
        if name == "isinstance":
            kinds = node.args[1].elts if isinstance(node.args[1], ast.Tuple) else [node.args[1]]
            for kind in kinds:
                if not isinstance(kind, ast.Name) or kind.id not in KIND_NAMES | ERROR_BUILTINS | self.package.classes():
                    self.fault("L22", node, "isinstance of something else")
        if name in CALLED_BUILTINS:
            for word in node.keywords:
                if word.arg not in BUILTIN_KEYWORDS.get(name, ()):
                    self.fault("L22", node, f"{name} with {word.arg}=")
        own = self.imported.get(name) or self.package.defined[self.name].get(name)
        if isinstance(own, ast.FunctionDef):
            self.check_count(node, own.args, 0)
        if isinstance(own, ast.ClassDef):
            inits = [part for part in own.body if isinstance(part, ast.FunctionDef) and part.name == "__init__"]
            if inits:
                self.check_count(node, inits[0].args, 1)

    def is_counted_set(self, node):
        """Whether it is `len(set(..))` or `sorted(set(..))`."""
        parent = self.parents[node]
        if own_name(node) != "set" or not isinstance(parent, ast.Call) or not isinstance(parent.func, ast.Name):
            return False
        return parent.func.id in ("len", "sorted") and parent.args == [node] and not parent.keywords

    def check_count(self, node, taken, own):
        if not self.is_count(node, taken, own):
            self.fault("L22", node, "not as many arguments as it takes")

    def is_count(self, node, taken, own):
        if any(isinstance(one, ast.Starred) for one in node.args):
            return True
        given = len(node.args) + len(node.keywords)
        most = len(taken.args) - own
        return most - len(taken.defaults) <= given <= most

    def check_at_once(self, node):
        parent = self.parents[node]
        if isinstance(parent, (ast.For, ast.comprehension)) and parent.iter == node:
            return
        if isinstance(parent, ast.Compare):
            return
        if isinstance(parent, ast.Call) and node in parent.args:
            if own_name(parent) in TAKES_AT_ONCE and isinstance(parent.func, ast.Name):
                return
            if own_name(parent) == "join" and isinstance(parent.func.value, ast.Constant):
                return
        self.fault("L23", node, "it is not iterated at once")

    def check_attribute(self, node):
        if node.attr == "__init__" or not isinstance(node.ctx, ast.Load):
            return
        parent = self.parents[node]
        called = isinstance(parent, ast.Call) and parent.func == node
        if called:
            return
        if node.attr in VALUE_METHODS - self.package.attributes or node.attr in self.package.methods:
            self.fault("L25", node, f"the method {node.attr} is not called where it stands")
        elif node.attr not in self.package.attributes:
            self.fault("L18", node, f"the attribute {node.attr} is assigned nowhere")

    def check_use(self, node):
        parent = self.parents[node]
        called = isinstance(parent, ast.Call) and parent.func == node
        if node.id in self.package.classes() | ERROR_BUILTINS | KIND_NAMES:
            asked = isinstance(parent, (ast.Call, ast.Tuple))
            if not called and not isinstance(parent, ast.ClassDef) and not (asked and self.is_asked_kind(node)):
                self.fault("L18", node, f"the class {node.id} is used as a value")
        elif node.id in CALLED_BUILTINS and not called:
            word = isinstance(parent, ast.keyword) and parent.arg == "key"
            if not word or node.id not in ("len", "int", "str", "abs", "sum", "min", "max", "tuple"):
                self.fault("L22", node, f"{node.id} is stored or passed on")

    def is_asked_kind(self, node):
        parent = self.parents[node]
        if isinstance(parent, ast.Tuple):
            node, parent = parent, self.parents[parent]
        return isinstance(parent, ast.Call) and own_name(parent) == "isinstance" and parent.args[1] == node
