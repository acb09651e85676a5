"""Holds the files of the package against the rules of LANGUAGE.md that reading them can show.

`broken_rules(folder)` gives a list of texts, one for each place where a rule is broken. It sees less than the
rules say: it is made for what this package uses, and refuses much that it does not use, rightly or not.
"""

import ast
import builtins
import io
import os
import re
import sys
import tokenize

LIBRARY = {
    "heapq": {"heappush", "heappop", "heapify", "heapreplace", "heappushpop"},
    "math": {"gcd", "lcm", "isqrt", "comb", "perm", "factorial"},
    "itertools": {"product", "combinations", "permutations"},
}
BUILTINS = set("""len range enumerate zip min max sum abs sorted reversed int str bool list tuple dict set isinstance
ord repr any all divmod ValueError TypeError KeyError IndexError LookupError ZeroDivisionError iter next
NotImplemented NotImplementedError super property staticmethod""".split())
METHODS = set("""append clear copy count endswith extend find get index insert isalnum isalpha isdigit islower isspace
isupper items join keys ljust lower lstrip partition pop remove replace reverse rfind rjust rpartition rsplit rstrip
setdefault split splitlines startswith strip update upper values zfill bit_length title capitalize removeprefix
removesuffix rindex isascii add discard""".split())
CHANGING = {"append", "clear", "extend", "insert", "pop", "remove", "reverse", "setdefault", "update", "add", "discard"}
DUNDERS = set("""__init__ __eq__ __repr__ __str__ __len__ __enter__ __exit__ __call__ __iter__ __lt__ __le__ __gt__
__ge__ __ne__ __add__ __sub__ __mul__ __floordiv__ __mod__ __pow__ __and__ __or__ __xor__ __lshift__ __rshift__
__radd__ __rsub__ __rmul__ __rfloordiv__ __rmod__ __rand__ __ror__ __rxor__ __iadd__ __isub__ __imul__ __neg__
__pos__ __invert__ __abs__ __bool__ __contains__ __getitem__ __setitem__""".split())
NOT_OPERATORS = {"__init__", "__enter__", "__exit__", "__call__", "__setitem__", "__iadd__", "__isub__", "__imul__"}
NOWHERE = set("""register mro elements open input law version_info with_traceback add_note f_back tb_next
co_names f_code f_locals f_globals tb_frame""".split())
NOT_BOUND = set("""attrgetter breakpoint builtins compile copyright credits delattr dir eval exec exit gc getattr
globals hasattr help id importlib license locals methodcaller os quit setattr super type vars sys __name__""".split())
BARRED_WORDS = set("""type typing typing_extensions enum Enum IntEnum StrEnum Flag IntFlag Generic Protocol ABC ABCMeta
namedtuple NamedTuple TypedDict TYPE_CHECKING abstractmethod""".split())
BARRED_PIECES = ("dataclass", "overload", "contextmanager")
BARRED_EVERYWHERE = ("(type)", "Meta", "metaclass=")
BARRED_STARTS = ("_wall", "_pe_", "_dcw_", "_enum_", "_cm_", "_twin_re_", "_lay_", "_law_", "_stub_", "_sre")
BARRED_FILES = {"test", "tests", "testing", "site", "conftest", "sitecustomize", "usercustomize"}
ITERATORS = {"zip", "enumerate", "reversed", "range"}
VIEWS = {"items", "keys", "values"}
TAKES_ITERATOR = {"list", "tuple", "dict", "sorted", "sum", "any", "all", "enumerate", "zip", "min", "max", "reversed"}
STATEMENTS = (ast.Assign, ast.AugAssign, ast.AnnAssign, ast.If, ast.While, ast.For, ast.Return, ast.Break,
              ast.Continue, ast.Pass, ast.Raise, ast.Assert, ast.Delete, ast.With, ast.Expr, ast.Try,
              ast.FunctionDef, ast.ClassDef, ast.ImportFrom)
PLAIN_TYPES = [str, list, dict, set, int, bytes, tuple]
OWNED_BY_VALUES = {name for kind in PLAIN_TYPES for name in dir(kind)}
CATCHABLE = {"KeyError", "ZeroDivisionError"}


class Package:
    """All files of a package, read."""

    def __init__(self, folder):
        self.folder = folder
        self.name = os.path.basename(folder)
        self.texts = {}
        self.trees = {}
        self.found = []
        for name in sorted(os.listdir(folder)):
            if name == "__pycache__":
                continue
            path = os.path.join(folder, name)
            if os.path.isdir(path) or not re.fullmatch(r"[a-z0-9_]+\.py", name):
                self.found.append(f"L1 {name}: no plain .py file")
                continue
            with open(path, "rb") as file:
                data = file.read()
            self.texts[name] = data.decode("utf-8")
            self.trees[name] = with_parents(ast.parse(self.texts[name]))
        self.classes = {}
        self.functions = {}
        for name, tree in self.trees.items():
            for node in ast.walk(tree):
                if isinstance(node, ast.ClassDef):
                    self.classes[node.name] = (name, node)
                elif isinstance(node, ast.FunctionDef):
                    self.functions.setdefault(node.name, []).append((name, node))
        self.methods = {n for n, rows in self.functions.items() if any(method_of(f) for _, f in rows)}
        self.properties = {n for n, rows in self.functions.items() if any(is_property(f) for _, f in rows)}
        self.generators = {n for n, rows in self.functions.items() if any(yields(f) for _, f in rows)}
        self.changing = changing_methods(self)

    def say(self, rule, name, node, what):
        line = node if isinstance(node, int) else getattr(node, "lineno", 0)
        self.found.append(f"{rule} {name}:{line}: {what}")


def with_parents(tree):
    tree.parent = None
    for node in ast.walk(tree):
        for child in ast.iter_child_nodes(node):
            child.parent = node
    return tree


def method_of(node):
    return node.parent if isinstance(node.parent, ast.ClassDef) else None


def is_property(node):
    return any(isinstance(d, ast.Name) and d.id == "property" or isinstance(d, ast.Attribute)
               for d in node.decorator_list)


def is_setter(node):
    return any(isinstance(d, ast.Attribute) for d in node.decorator_list)


def yields(function):
    return any(isinstance(n, (ast.Yield, ast.YieldFrom)) and function_of(n) is function for n in ast.walk(function))


def function_of(node):
    node = node.parent
    while node is not None and not isinstance(node, (ast.FunctionDef, ast.Lambda)):
        node = node.parent
    return node


def called_name(node):
    if isinstance(node, ast.Call):
        if isinstance(node.func, ast.Name):
            return node.func.id
        if isinstance(node.func, ast.Attribute):
            return node.func.attr
    return ""


def broken_rules(folder):
    package = Package(folder)
    for name, text in package.texts.items():
        check_text(package, name, text)
        check_tokens(package, name, text)
        check_module(package, name)
        for node in ast.walk(package.trees[name]):
            for check in CHECKS:
                check(package, name, node)
    check_circles(package)
    check_classes(package)
    check_pure(package)
    return package.found


def check_text(package, name, text):
    lines = text.split("\n")
    if len(lines) - 1 > 399:
        package.say("L10", name, 0, f"{len(lines) - 1} lines")
    for number, line in enumerate(lines, 1):
        if len(line) > 120 or "\t" in line:
            package.say("L10", name, number, "a line too long, or with a tab")
        if any(not " " <= sign <= "~" for sign in line):
            package.say("L14", name, number, "a character that is none of ASCII's")
        if "_wall" in line or "_WallAttr" in line:
            package.say("L12", name, number, "a barred word")
        for piece in BARRED_EVERYWHERE:
            if piece in line:
                package.say("L17", name, number, f"{piece} in a package with __getitem__")
    stem = name[:-3]
    barred = stem in BARRED_FILES | BARRED_WORDS or stem.startswith(("law_", "test_"))
    if barred or (hasattr(builtins, stem) and stem != "__init__"):
        package.say("L14", name, 0, "a barred file name")
    if package.name in sys.stdlib_module_names or stem in LIBRARY:
        package.say("L14", name, 0, "a name of the standard library")


def check_tokens(package, name, text):
    for token in tokenize.generate_tokens(io.StringIO(text).readline):
        if token.type == tokenize.NAME:
            if token.string in BARRED_WORDS or token.string in NOWHERE:
                package.say("L17", name, token.start[0], f"the word {token.string}")
            if any(piece in token.string for piece in BARRED_PIECES):
                package.say("L17", name, token.start[0], f"the word {token.string}")
        if token.type == tokenize.STRING and re.search(r"\\(?![n\\t'\"])", token.string):
            package.say("L27", name, token.start[0], "an escape that is not allowed")


def is_docstring(node):
    up = node.parent
    if not isinstance(up, ast.Expr) or not isinstance(up.parent, (ast.Module, ast.ClassDef, ast.FunctionDef)):
        return False
    return up.parent.body[0] is up


def check_module(package, name):
    tree = package.trees[name]
    bound = []
    behind_imports = False
    for number, node in enumerate(tree.body):
        if isinstance(node, ast.Expr) and number == 0 and isinstance(node.value, ast.Constant):
            continue
        if isinstance(node, ast.ImportFrom):
            if behind_imports:
                package.say("L2", name, node, "an import that does not stand at the top")
            bound.extend(alias.name for alias in node.names)
            continue
        behind_imports = True
        if isinstance(node, (ast.FunctionDef, ast.ClassDef)):
            bound.append(node.name)
        elif isinstance(node, ast.Assign) and len(node.targets) == 1 and isinstance(node.targets[0], ast.Name):
            bound.append(node.targets[0].id)
            check_plain_value(package, name, node.value, True)
        else:
            package.say("L3", name, node, "a statement that may not stand at module level")
    for word in bound:
        if bound.count(word) > 1:
            package.say("L15", name, 0, f"{word} is bound twice")
    loads = {n.id for n in ast.walk(tree) if isinstance(n, ast.Name)}
    for node in tree.body:
        if isinstance(node, ast.ImportFrom):
            for alias in node.names:
                if alias.name not in loads:
                    package.say("L2", name, node, f"{alias.name} is imported and not used")


def check_plain_value(package, name, node, top):
    if isinstance(node, ast.Constant) and not isinstance(node.value, (float, complex)) and node.value is not Ellipsis:
        return
    if isinstance(node, ast.UnaryOp) and isinstance(node.op, ast.USub):
        return check_plain_value(package, name, node.operand, False)
    if isinstance(node, ast.Tuple) or (isinstance(node, ast.List) and top):
        return [check_plain_value(package, name, n, False) for n in node.elts]
    if isinstance(node, ast.Dict) and top:
        return [check_plain_value(package, name, n, False) for n in node.keys + node.values]
    if isinstance(node, ast.Name):
        return None
    package.say("L3", name, node, "a value at module level that is not plain")


def check_import(package, name, node):
    if isinstance(node, ast.Import):
        package.say("L2", name, node, "import without from")
    if not isinstance(node, ast.ImportFrom):
        return
    if node.level or not isinstance(node.parent, ast.Module) or any(a.asname or a.name == "*" for a in node.names):
        package.say("L2", name, node, "a form of import that is not allowed")
    if node.module in LIBRARY:
        if not {a.name for a in node.names} <= LIBRARY[node.module]:
            package.say("L2", name, node, f"not allowed of {node.module}")
        return
    stem, _, file = (node.module or "").partition(".")
    if stem != package.name or file + ".py" not in package.trees:
        package.say("L2", name, node, f"import from {node.module}")
        return
    own = {n.name for n in package.trees[file + ".py"].body if isinstance(n, (ast.FunctionDef, ast.ClassDef))}
    own |= {n.targets[0].id for n in package.trees[file + ".py"].body if isinstance(n, ast.Assign)}
    for alias in node.names:
        if alias.name not in own:
            package.say("L16", name, node, f"{alias.name} is not defined in {node.module}")


def check_library_call(package, name, node):
    if not isinstance(node, ast.Name) or not isinstance(node.ctx, ast.Load):
        return
    tree = package.trees[name]
    names = {a.name for n in tree.body if isinstance(n, ast.ImportFrom) and n.module in LIBRARY for a in n.names}
    if node.id in names and not (isinstance(node.parent, ast.Call) and node.parent.func is node):
        package.say("L2", name, node, f"{node.id} is not called")
    if node.id in names and isinstance(node.parent, ast.Call) and node.parent.keywords:
        package.say("L2", name, node, f"{node.id} is called with keywords")


def check_statement(package, name, node):
    if isinstance(node, ast.stmt) and not isinstance(node, STATEMENTS + (ast.Nonlocal,)):
        package.say("L6", name, node, f"a statement {type(node).__name__}")
    if isinstance(node, ast.Assert) and isinstance(node.test, ast.Tuple):
        package.say("L6", name, node, "an assert over a tuple")
    if isinstance(node, ast.Expr) and not isinstance(node.value, (ast.Call, ast.Yield, ast.YieldFrom)):
        if not (isinstance(node.value, ast.Constant) and is_docstring(node.value)):
            package.say("L6", name, node, "a value alone on its line")
    if isinstance(node, ast.ClassDef) and not isinstance(node.parent, ast.Module):
        package.say("L15", name, node, "a class within something")
    if isinstance(node, ast.Try) and (node.finalbody or not node.handlers):
        package.say("L6", name, node, "a finally: not looked at by this check")
    if isinstance(node, ast.ExceptHandler):
        own = set(package.classes)
        kinds = node.type.elts if isinstance(node.type, ast.Tuple) else [node.type]
        for kind in kinds:
            if not isinstance(kind, ast.Name) or kind.id not in own | CATCHABLE:
                package.say("L19", name, node, "an error that is not caught here")
    if isinstance(node, ast.Raise) and node.exc is not None:
        if not isinstance(node.exc, ast.Call) or called_name(node.exc) not in set(package.classes) | BUILTINS:
            package.say("L19", name, node, "raise without the call of an error class")


def check_function(package, name, node):
    if isinstance(node, ast.FunctionDef):
        if node.end_lineno - node.lineno + 1 > 40:
            package.say("L10", name, node, f"{node.name} has {node.end_lineno - node.lineno + 1} lines")
        for one in node.decorator_list:
            word = one.id if isinstance(one, ast.Name) else getattr(one, "attr", "")
            if word not in ("property", "staticmethod", "setter") or not method_of(node):
                package.say("L4", name, node, "a decorator")
        for value in node.args.defaults + [d for d in node.args.kw_defaults if d is not None]:
            if not isinstance(value, (ast.Constant, ast.Tuple, ast.UnaryOp, ast.Name)):
                package.say("L4", name, node, "a default value that is not plain")
        if node.name.startswith("__") and (node.name not in DUNDERS or not method_of(node)):
            package.say("L5", name, node, f"the method {node.name}")
        if node.name == "__init__" and any(isinstance(n, ast.Return) and n.value for n in ast.walk(node)):
            package.say("L28", name, node, "__init__ returns something")
        if node.name == "__iter__":
            body = [n for n in node.body if not (isinstance(n, ast.Expr) and isinstance(n.value, ast.Constant))]
            if len(body) != 1 or not re.fullmatch(r"return iter\(self\.\w+\)|raise TypeError\('[^']*'\)",
                                                  ast.unparse(body[0])):
                package.say("L5", name, node, "__iter__ of another form")
        if yields(node) and (node.name.startswith("__") or node.decorator_list):
            package.say("L23", name, node, "a generator that may not be one")
    if isinstance(node, ast.AsyncFunctionDef):
        package.say("L6", name, node, "async")
    if isinstance(node, (ast.Yield, ast.YieldFrom)):
        if not isinstance(node.parent, ast.Expr):
            package.say("L23", name, node, "a yield that is no statement")
        up = node
        while not isinstance(up, ast.FunctionDef):
            if isinstance(up, (ast.Try, ast.With)):
                package.say("L23", name, node, "a yield under a try or a with")
            up = up.parent


def bound_names(node):
    if isinstance(node, ast.arg):
        return [node.arg]
    if isinstance(node, ast.Name) and isinstance(node.ctx, (ast.Store, ast.Del)):
        return [node.id]
    if isinstance(node, (ast.FunctionDef, ast.ClassDef)):
        return [node.name]
    if isinstance(node, ast.ExceptHandler) and node.name:
        return [node.name]
    return []


def check_names(package, name, node):
    tree = package.trees[name]
    top = {a.name for n in tree.body if isinstance(n, ast.ImportFrom) for a in n.names}
    top |= {n.name for n in tree.body if isinstance(n, ast.ClassDef)}
    for word in bound_names(node):
        is_method = isinstance(node, ast.FunctionDef) and method_of(node)
        if not re.fullmatch(r"_?[A-Za-z][A-Za-z0-9_]*|_|__\w+__", word) or word.startswith(BARRED_STARTS):
            package.say("L12", name, node, f"the name {word}")
        if hasattr(builtins, word) and not (is_method and word not in BUILTINS):
            package.say("L15", name, node, f"{word} is the name of a builtin")
        if word in NOT_BOUND | NOWHERE:
            package.say("L17", name, node, f"the name {word}")
        if word in top and not isinstance(node.parent, ast.Module) and not is_method:
            package.say("L15", name, node, f"{word} is a class or an import of this file")
    if isinstance(node, ast.Name) and isinstance(node.ctx, ast.Load):
        if hasattr(builtins, node.id) and node.id not in BUILTINS:
            package.say("L8", name, node, f"the builtin {node.id}")
        if node.id == "_":
            package.say("L12", name, node, "_ is read")
        if node.id in package.classes:
            check_class_use(package, name, node)
    if isinstance(node, ast.Attribute) and isinstance(node.ctx, ast.Store):
        if node.attr in OWNED_BY_VALUES or node.attr in NOWHERE:
            package.say("L26", name, node, f"the attribute {node.attr}")
    if isinstance(node, ast.Attribute) and node.attr.startswith("__") and node.attr != "__init__":
        package.say("L8", name, node, f"the attribute {node.attr}")


def check_class_use(package, name, node):
    up = node.parent
    if isinstance(up, ast.Call) and up.func is node:
        return
    if isinstance(up, ast.Attribute) or isinstance(up, (ast.ClassDef, ast.ExceptHandler)):
        return
    if isinstance(up, ast.Call) and called_name(up) == "isinstance" and up.args[1] is node:
        return
    if isinstance(up, ast.Tuple) and isinstance(up.parent, (ast.ExceptHandler, ast.Call)):
        return
    package.say("L18", name, node, f"the class {node.id} is passed on")


def check_arguments(package, name, node):
    """Each call of an own function or class passes what it takes."""
    if not isinstance(node, ast.Call) or any(isinstance(a, ast.Starred) for a in node.args):
        return
    if isinstance(node.func, ast.Name) and node.func.id in package.classes:
        found = [n for n in package.classes[node.func.id][1].body if getattr(n, "name", "") == "__init__"]
        skip = 1
    elif isinstance(node.func, ast.Name):
        found = [f for _, f in package.functions.get(node.func.id, []) if not method_of(f)]
        skip = 0
    else:
        return
    for function in found[:1]:
        args = function.args
        names = [a.arg for a in args.args][skip:]
        most = 1000 if args.vararg else len(names)
        passed = {k.arg for k in node.keywords}
        only = {a.arg for a in args.kwonlyargs}
        needed = [n for n in names[:len(names) - len(args.defaults)] if n not in passed]
        if len(node.args) > most or len(node.args) < len(needed) or not passed <= only | set(names):
            package.say("L22", name, node, f"the arguments of {function.name}")


def check_value(package, name, node):
    if isinstance(node, ast.Constant):
        check_constant(package, name, node)
    if isinstance(node, (ast.BinOp, ast.AugAssign)) and isinstance(node.op, (ast.Div, ast.MatMult)):
        package.say("L7", name, node, "a / between numbers")
    if isinstance(node, ast.BinOp) and isinstance(node.op, ast.Pow) and not isinstance(node.right, ast.Constant):
        package.say("L27", name, node, "an exponent that is no literal")
    if isinstance(node, ast.GeneratorExp):
        package.say("L7", name, node, "a generator expression in a package with __eq__")
    if isinstance(node, ast.Compare):
        for op, side in zip(node.ops, node.comparators):
            if isinstance(op, (ast.Is, ast.IsNot)) and not isinstance(side, ast.Constant):
                package.say("L20", name, node, "is with something else than a constant")
    if isinstance(node, (ast.Set, ast.SetComp)) or called_name(node) == "set":
        check_set(package, name, node)
    if isinstance(node, ast.Lambda) and not isinstance(node.parent, ast.keyword):
        package.say("L4", name, node, "a lambda that is no key")
    if isinstance(node, (ast.Await, ast.AsyncFor, ast.AsyncWith, ast.NamedExpr)):
        package.say("L6", name, node, "not used here")


def check_constant(package, name, node):
    if isinstance(node.value, (float, complex)):
        package.say("L7", name, node, "a float")
    if not isinstance(node.value, str) or is_docstring(node):
        return
    if "%" in node.value or re.search(r"__.*__", node.value) or node.value.endswith(("._", ".__")):
        package.say("L27", name, node, "a string that is not allowed")
    words = set(re.findall(r"\w+", node.value))
    if words & (BARRED_WORDS - {"type"}) or any(piece in node.value for piece in BARRED_PIECES):
        package.say("L17", name, node, "a barred word in a string")
    if words & {word for word in NOWHERE if word.startswith(("f_", "tb_", "co_"))}:
        package.say("L27", name, node, "a name of a frame in a string")


def check_set(package, name, node):
    up = node.parent
    if isinstance(up, ast.BinOp):
        up = up.parent
    good = isinstance(up, ast.Compare) or (called_name(up) in ("sorted", "len") and not up.keywords)
    if not good:
        kept = isinstance(up, ast.Assign) and len(up.targets) == 1 and isinstance(up.targets[0], ast.Name)
        if not kept or not only_asked(function_of(node), up.targets[0].id):
            package.say("L24", name, node, "a set where none may stand")
    if isinstance(node, ast.Set) and len([n for n in node.elts if isinstance(n, ast.Constant)]) > 2:
        if not isinstance(up, ast.Compare):
            package.say("L13", name, node, "a literal set")


def only_asked(function, word):
    stores = 0
    for node in ast.walk(function):
        if not isinstance(node, ast.Name) or node.id != word:
            continue
        up = node.parent
        if isinstance(node.ctx, ast.Store):
            stores += 1
        elif isinstance(up, ast.Attribute) and up.attr in ("add", "discard"):
            if not isinstance(up.parent.parent, ast.Expr):
                return False
        elif not (isinstance(up, ast.Compare) or called_name(up) in ("len", "sorted")):
            return False
    return stores == 1


def is_iterated(node):
    """Is a call iterated where it stands?"""
    up = node.parent
    if isinstance(up, (ast.For, ast.comprehension)):
        return up.iter is node
    if isinstance(up, ast.YieldFrom):
        return True
    if isinstance(up, ast.Call) and node in up.args:
        if isinstance(up.func, ast.Attribute):
            return up.func.attr == "join" and isinstance(up.func.value, ast.Constant)
        return called_name(up) in TAKES_ITERATOR
    return False


def check_call(package, name, node):
    if not isinstance(node, ast.Call):
        return
    word = called_name(node)
    bare = isinstance(node.func, ast.Name)
    if bare and word in ITERATORS and not is_iterated(node):
        up = node.parent
        ranged = word == "range" and (called_name(up) in ("len", "reversed") or isinstance(up, ast.Compare))
        kept = word == "range" and isinstance(up, ast.Assign)
        if not ranged and not kept:
            package.say("L23", name, node, f"{word} is not iterated at once")
    if bare and word == "reversed" and called_name(node.args[0]) not in ("list", "tuple", "sorted", "range"):
        package.say("L5", name, node, "reversed over something else than a list that is made there")
    if called_name(node.parent) == "reversed" and bare and word in ("zip", "enumerate"):
        package.say("L23", name, node, f"{word} in reversed")
    if not bare and word in VIEWS and word not in package.methods and not is_iterated(node):
        package.say("L23", name, node, f"{word} is not iterated at once")
    if word in package.generators and not is_iterated(node):
        package.say("L23", name, node, f"the generator {word} is not iterated at once")
    if bare and word == "iter" and not (isinstance(node.parent, ast.Return)):
        package.say("L8", name, node, "iter")
    if not bare and isinstance(node.func, ast.Attribute):
        if word not in METHODS and word not in package.methods and word != "__init__":
            package.say("L25", name, node, f"the method {word}")
        if word == "sort":
            package.say("L25", name, node, "sort in a package with __eq__")
    if not bare and not isinstance(node.func, ast.Attribute):
        package.say("L7", name, node, "a call of what is no name and no attribute")
    check_keywords(package, name, node, word)


def check_keywords(package, name, node, word):
    own = set(package.functions) | set(package.classes)
    allowed = {"sorted": {"key", "reverse"}, "min": {"key", "default"}, "max": {"key", "default"},
               "sum": {"start"}, "enumerate": {"start"}, "zip": {"strict"}}
    for keyword in node.keywords:
        if word not in own and keyword.arg not in allowed.get(word, set()):
            package.say("L22", name, node, f"the keyword {keyword.arg} of {word}")


def root_name(node):
    while isinstance(node, (ast.Attribute, ast.Subscript)):
        node = node.value
    return node.id if isinstance(node, ast.Name) else ""


def changes_of(body):
    """What the rows change: texts of lists that are changed, each with its node."""
    out = []
    for top in body:
        for node in ast.walk(top):
            if isinstance(node, ast.Call) and isinstance(node.func, ast.Attribute) and node.func.attr in CHANGING:
                out.append((ast.unparse(node.func.value), node))
            if isinstance(node, ast.Call) and called_name(node) in LIBRARY["heapq"]:
                out.append((ast.unparse(node.args[0]), node))
            if isinstance(node, ast.Subscript) and isinstance(node.ctx, (ast.Store, ast.Del)):
                out.append((ast.unparse(node.value), node))
    return out


def loop_parts(node):
    """What a loop or comprehension goes over, each with what is done there."""
    if isinstance(node, ast.For):
        return [(node.iter, node.body)]
    if isinstance(node, (ast.ListComp, ast.DictComp, ast.SetComp)):
        inner = [node.key, node.value] if isinstance(node, ast.DictComp) else [node.elt]
        return [(part.iter, inner + part.ifs) for part in node.generators]
    return []


def check_loop(package, name, node):
    for over, body in loop_parts(node):
        gone_over = {ast.unparse(over)}
        if isinstance(over, ast.Call) and called_name(over) in ITERATORS | VIEWS:
            gone_over |= {ast.unparse(n) for n in over.args}
            if isinstance(over.func, ast.Attribute):
                gone_over.add(ast.unparse(over.func.value))
        for text, where in changes_of(body):
            if text in gone_over:
                package.say("L23", name, where, f"{text} is changed while it is iterated over")


def bare_fields(node):
    """The attributes that are gone over where they stand, not in a copy."""
    if isinstance(node, ast.Call) and called_name(node) in ("list", "tuple", "sorted", "range", "len"):
        return []
    is_method = isinstance(node.parent, ast.Call) and node.parent.func is node
    out = [node] if isinstance(node, ast.Attribute) and not is_method else []
    for child in ast.iter_child_nodes(node):
        out.extend(bare_fields(child))
    return out


def names_of_fields(function):
    """The variables of a function that are a field, or an item of one."""
    return {one.targets[0].id for one in ast.walk(function) if isinstance(one, ast.Assign)
            and isinstance(one.targets[0], ast.Name) and bare_fields(one.value)
            and isinstance(one.value, (ast.Attribute, ast.Subscript))}


def check_field_loop(package, name, node):
    """A loop that walks a field changes no item of a field: it could be the very list that is walked."""
    if not isinstance(node, ast.For) or not bare_fields(node.iter):
        return
    kept = names_of_fields(function_of(node))
    for text, where in changes_of(node.body):
        if ("[" in text and "." in text.partition("[")[0]) or text.partition("[")[0].partition(".")[0] in kept:
            package.say("L23", name, where, f"{text}, an item of a field, is changed in a loop over a field")


def fields_set(body):
    """The attributes that the rows assign or delete: their texts, each with its node."""
    return [(ast.unparse(node), node) for top in body for node in ast.walk(top)
            if isinstance(node, ast.Attribute) and isinstance(node.ctx, (ast.Store, ast.Del))]


def changing_methods(package):
    """The names of methods that change a field of their object, by themselves or by another method of it."""
    out = set()
    rows = [(word, node) for word in package.methods for _, node in package.functions[word]
            if method_of(node) and node.args.args]
    before = -1
    while before < len(out):
        before = len(out)
        for word, node in rows:
            own = node.args.args[0].arg + "."
            changed = [text for text, _ in changes_of(node.body) + fields_set(node.body)]
            called = [ast.unparse(call.func) for call in ast.walk(node) if isinstance(call, ast.Call)]
            if any(text.startswith(own) for text in changed) or any(text in called for text in {own + k for k in out}):
                out.add(word)
    return out


def check_generator_loop(package, name, node):
    """A loop over a generator changes no field, by whatever name, and nothing that the generator was passed."""
    for over, body in loop_parts(node):
        for call in ast.walk(over):
            if called_name(call) in package.generators:
                passed = names_of_fields(function_of(node)) | {
                    root_name(part) for arg in call.args for part in ast.walk(arg)} - {""}
                if isinstance(call.func, ast.Attribute):
                    passed.add(root_name(call.func.value))
                check_kept(package, name, body, passed)


def check_kept(package, name, body, passed):
    """The rows change no field, and none of these names, neither by methods that change their object."""
    for text, where in changes_of(body) + fields_set(body):
        if "." in text or text.partition("[")[0] in passed:
            package.say("L23", name, where, f"{text} is changed in a loop over a generator")
    for top in body:
        for node in ast.walk(top):
            if isinstance(node, ast.Call) and isinstance(node.func, ast.Attribute) and node.func.attr in package.changing:
                if root_name(node.func.value) in passed:
                    package.say("L23", name, node, f"{node.func.attr} is called in a loop over a generator")


CHECKS = [check_import, check_library_call, check_statement, check_function, check_names, check_value, check_call,
          check_loop, check_field_loop, check_generator_loop, check_arguments]


def check_circles(package):
    needs = {name: {n.module.partition(".")[2] + ".py" for n in tree.body if isinstance(n, ast.ImportFrom)
                    and n.module.startswith(package.name + ".")} for name, tree in package.trees.items()}
    for name in needs:
        seen, todo = set(), list(needs[name])
        while todo:
            one = todo.pop()
            if one not in seen:
                seen.add(one)
                todo.extend(needs.get(one, ()))
        if name in seen:
            package.say("L16", name, 0, "files that import from each other")


def check_classes(package):
    stored = {}
    for name, tree in package.trees.items():
        for node in ast.walk(tree):
            if isinstance(node, ast.Attribute) and isinstance(node.ctx, ast.Store):
                stored.setdefault(node.attr, (name, node))
    for name, tree in package.trees.items():
        for node in ast.walk(tree):
            if isinstance(node, ast.Attribute) and isinstance(node.ctx, ast.Load):
                known = package.methods | METHODS | {"__init__", "setter"}
                if node.attr not in stored and node.attr not in known:
                    package.say("L18", name, node, f"no class assigns the attribute {node.attr}")
    for word, (name, node) in stored.items():
        if word in package.methods:
            package.say("L18", name, node, f"{word} is an attribute and a method")
    for word in package.methods:
        rows = package.functions[word]
        if word in package.properties and not all(is_property(f) for _, f in rows):
            package.say("L5", rows[0][0], rows[0][1], f"{word} is a property and a method")
        if word in package.generators and len(rows) > 1:
            package.say("L23", rows[0][0], rows[0][1], f"{word} is a generator, and another function")
        if word in OWNED_BY_VALUES and not word.startswith("__") and word not in METHODS:
            package.say("L26", rows[0][0], rows[0][1], f"the method {word}")
    for word, (name, node) in package.classes.items():
        names = [n.name for n in node.body if isinstance(n, ast.FunctionDef) and not is_property(n)]
        if len(set(names)) < len(names):
            package.say("L18", name, node, f"{word} defines a method twice")
        if "__getitem__" in names and "__iter__" not in names:
            package.say("L5", name, node, f"{word} has no __iter__")
        for base in node.bases:
            if not isinstance(base, ast.Name) or (base.id not in package.classes and base.id != "ValueError"):
                package.say("L5", name, node, f"the base of {word}")


def check_pure(package):
    """What operators, properties and __eq__ run changes only what it made."""
    todo = []
    for word, rows in package.functions.items():
        for name, node in rows:
            if is_setter(node):
                continue
            if is_property(node) or (method_of(node) and word.startswith("__") and word not in NOT_OPERATORS):
                todo.append((name, node))
    seen = []
    while todo:
        name, node = todo.pop()
        if node in seen:
            continue
        seen.append(node)
        check_pure_function(package, name, node)
        for call in ast.walk(node):
            word = called_name(call)
            if word in package.classes:
                todo.extend((f, n) for f, n in package.functions.get("__init__", []) if method_of(n).name == word)
            elif word in package.functions and word not in METHODS | {"__init__"}:
                todo.extend(package.functions[word])


def check_pure_function(package, name, node):
    made = {}
    for one in ast.walk(node):
        if isinstance(one, ast.Assign) and isinstance(one.targets[0], ast.Name):
            fresh = isinstance(one.value, (ast.List, ast.ListComp, ast.Dict, ast.DictComp)) or (
                called_name(one.value) in ("list", "dict", "set", "sorted"))
            word = one.targets[0].id
            made[word] = made.get(word, True) and fresh
    for text, where in changes_of(node.body):
        if not made.get(text, False):
            package.say("L5", name, where, f"{text} is changed in what an operator or a property runs")
    for one in ast.walk(node):
        if isinstance(one, ast.AugAssign) and not (isinstance(one.target, ast.Name)
                                                   and isinstance(one.value, ast.Constant)):
            package.say("L5", name, one, "+= in what an operator or a property runs")
        if isinstance(one, ast.Attribute) and isinstance(one.ctx, ast.Store) and node.name != "__init__":
            package.say("L5", name, one, "an attribute is set in what an operator or a property runs")
        if called_name(one) in LIBRARY["heapq"] | {"map"}:
            package.say("L5", name, one, f"{called_name(one)} in what an operator or a property runs")
