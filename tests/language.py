"""A check of ../shared/LANGUAGE.md for the files of the package: those rules that a short script can see.

complaints(name, source) tells for one file the list of (rule, line) that it breaks, package_complaints(sources) what
only all files together show. Neither sees all that the rules ask for.
"""

import ast
import builtins
import re

PACKAGE = "lotmarks"

USED_BUILTINS = set(
    "len range enumerate zip min max sum abs sorted reversed int str bool bytes list tuple dict set frozenset "
    "isinstance ord repr any all divmod iter next super property staticmethod classmethod Exception ValueError "
    "TypeError KeyError IndexError LookupError ZeroDivisionError ArithmeticError OverflowError RuntimeError "
    "NotImplementedError AttributeError StopIteration NotImplemented object".split()
)
METHODS = set(
    "append clear copy count endswith extend find get index insert isalnum isalpha isdigit islower isspace isupper "
    "items join keys ljust lower lstrip partition pop remove replace reverse rfind rjust rpartition rsplit rstrip "
    "setdefault split splitlines startswith strip update upper values zfill bit_length title capitalize swapcase "
    "casefold center expandtabs removeprefix removesuffix rindex isascii isdecimal isnumeric istitle isidentifier "
    "isprintable add discard".split()
)
NO_ATTRIBUTES = set(
    "items keys values pop update append clear extend insert remove reverse setdefault sort args encode decode hex "
    "fromhex format format_map mro as_integer_ratio bit_count conjugate from_bytes is_integer to_bytes".split()
)
SPECIAL_METHODS = set(
    "init eq repr str len enter exit call iter lt le gt ge ne add sub mul floordiv mod pow and or xor lshift rshift "
    "radd rsub rmul iadd isub imul neg pos invert abs bool contains getitem setitem".split()
)
BARRED_WORDS = re.compile(
    r"\b(type|typing|typing_extensions|enum|Enum|IntEnum|StrEnum|Flag|IntFlag|Generic|Protocol|ABC|ABCMeta|namedtuple"
    r"|NamedTuple|TypedDict|TYPE_CHECKING|abstractmethod)\b|dataclass|overload|contextmanager"
)
BARRED_NAMES = set(
    "register mro elements open input law version_info with_traceback add_note attrgetter breakpoint builtins compile "
    "copyright credits delattr dir eval exec exit gc getattr globals hasattr help id importlib license locals "
    "methodcaller os quit setattr type vars sys".split()
)
STATEMENTS = (
    ast.FunctionDef, ast.ClassDef, ast.Return, ast.Delete, ast.Assign, ast.AugAssign, ast.AnnAssign, ast.For, ast.While,
    ast.If, ast.With, ast.Match, ast.Raise, ast.Try, ast.Assert, ast.ImportFrom, ast.Nonlocal, ast.Expr, ast.Pass,
    ast.Break, ast.Continue,
)
LIST_TAKERS = set("sum min max sorted any all".split())
MODIFIERS = set("append clear extend insert pop remove reverse setdefault sort update add discard".split())
PLAIN_NAME = re.compile(r"[A-Za-z][A-Za-z0-9_]*")
DOUBLE = re.compile(r"__[a-z]+__")


def complaints(name, source):
    """All pairs (rule, line) that one file breaks, by the line."""
    tree = ast.parse(source)
    found = file_complaints(name) + text_complaints(source) + module_complaints(tree) + name_complaints(tree)
    for node in ast.walk(tree):
        found += [(rule, getattr(node, "lineno", 0)) for rule in node_rules(node)]
    for node in ast.walk(tree):
        if isinstance(node, (ast.FunctionDef, ast.Lambda)):
            found += function_complaints(tree, node) + loop_complaints(node)
    return sorted(set(found), key=lambda one: (one[1], one[0]))


def file_complaints(name):
    barred = dir(builtins) + ["test", "tests", "testing", "site", "conftest", "sitecustomize", "usercustomize"]
    stem = name[:-3]
    plain = name.endswith(".py") and re.fullmatch(r"[a-z][a-z0-9_]*|__init__|__main__", stem)
    if not plain or stem in barred or stem.startswith(("law_", "test_")) or BARRED_WORDS.fullmatch(stem):
        return [("L14", 1)]
    return []


def text_complaints(source):
    found = []
    lines = source.split("\n")
    for number, line in enumerate(lines, 1):
        if len(line) > 120 or "\t" in line:
            found.append(("L10", number))
        if any(not " " <= letter <= "~" for letter in line):
            found.append(("L14", number))
        if BARRED_WORDS.search(line):
            found.append(("L17", number))
    if len(source.splitlines()) > 399:
        found.append(("L10", 400))
    return found


def module_complaints(tree):
    """Imports, what stands at module level, and names that are bound twice there."""
    found, bound = [], []
    for at, node in enumerate(tree.body):
        doc = isinstance(node, ast.Expr) and isinstance(node.value, ast.Constant) and at == 0
        told = isinstance(node, ast.Assign) and len(node.targets) == 1 and isinstance(node.targets[0], ast.Name)
        if not doc and not told and not isinstance(node, (ast.ImportFrom, ast.FunctionDef, ast.ClassDef)):
            found.append(("L3", node.lineno))
        if isinstance(node, ast.ImportFrom):
            if node.level or not node.module.startswith(PACKAGE + ".") or any(one.name == "*" for one in node.names):
                found.append(("L2", node.lineno))
            if any(not isinstance(one, (ast.ImportFrom, ast.Expr)) for one in tree.body[:at]):
                found.append(("L2", node.lineno))
        if told and not plain_value(node.value):
            found.append(("L3", node.lineno))
        bound += [(name, node.lineno) for name in bound_names(node)]
    names = [name for name, _ in bound]
    return found + [("L15", line) for at, (name, line) in enumerate(bound) if name in names[:at]]


def plain_value(node):
    """Whether an expression at module level calls and computes nothing but what is easy to see."""
    barred = (ast.Call, ast.Lambda, ast.ListComp, ast.SetComp, ast.DictComp, ast.GeneratorExp, ast.Set, ast.Attribute)
    return not any(isinstance(inner, barred) for inner in ast.walk(node))


def bound_names(node):
    if isinstance(node, (ast.FunctionDef, ast.ClassDef)):
        return [node.name]
    if isinstance(node, ast.ImportFrom):
        return [one.asname or one.name for one in node.names]
    if isinstance(node, ast.Assign):
        return [target.id for target in node.targets if isinstance(target, ast.Name)]
    return []


def given_names(tree):
    """All names that a file gives to variables, parameters, functions, classes and caught errors, with their lines."""
    for node in ast.walk(tree):
        if isinstance(node, ast.Name) and isinstance(node.ctx, ast.Store):
            yield node.id, node
        elif isinstance(node, ast.arg):
            yield node.arg, node
        elif isinstance(node, (ast.FunctionDef, ast.ClassDef)):
            yield node.name, node
        elif isinstance(node, ast.ExceptHandler) and node.name:
            yield node.name, node
        elif isinstance(node, ast.alias):
            yield node.asname or node.name, node


def name_complaints(tree):
    found = []
    methods = [item for node in ast.walk(tree) if isinstance(node, ast.ClassDef) for item in node.body]
    there = [name for node in tree.body if isinstance(node, (ast.ImportFrom, ast.ClassDef)) for name in bound_names(node)]
    for name, node in given_names(tree):
        method = node in methods
        if not PLAIN_NAME.fullmatch(name) and not (method and DOUBLE.fullmatch(name) and name[2:-2] in SPECIAL_METHODS):
            found.append(("L12", node.lineno))
        if name in BARRED_NAMES:
            found.append(("L17", node.lineno))
        if not method and name in dir(builtins):
            found.append(("L15", node.lineno))
        if isinstance(node, (ast.Name, ast.arg)) and name in there:
            found.append(("L15", node.lineno))
    return found


def function_complaints(tree, function):
    """Sizes, and builtins that are read and not listed."""
    found = []
    if isinstance(function, ast.FunctionDef):
        if function.end_lineno - function.lineno + 1 > 40:
            found.append(("L10", function.lineno))
        if function.args.posonlyargs:
            found.append(("L4", function.lineno))
        decorators = [ast.unparse(one) for one in function.decorator_list]
        if any(one not in ("property", "staticmethod", "classmethod") and not one.endswith(".setter") for one in decorators):
            found.append(("L4", function.lineno))
    given = {name for name, _ in given_names(tree)}
    for node in ast.walk(function):
        if isinstance(node, ast.Name) and isinstance(node.ctx, ast.Load) and node.id not in given:
            if node.id not in USED_BUILTINS:
                found.append(("L8", node.lineno))
    return found


def loop_complaints(function):
    """Changes of what a loop or a comprehension walks, also by another name that was given the same thing."""
    found = []
    groups = same_things(function)
    for node in ast.walk(function):
        if isinstance(node, ast.For):
            heads, rows = [node.iter], node.body
        elif isinstance(node, (ast.ListComp, ast.SetComp, ast.DictComp, ast.GeneratorExp)):
            heads, rows = [one.iter for one in node.generators], [node]
        else:
            continue
        walked = [name for head in heads for name in given_by(walked_by(head))]
        walked += [name for group in groups for name in group if group & set(walked)]
        for inner in [inner for row in rows for inner in ast.walk(row)]:
            if any(name in walked for name in changed_by(inner)):
                found.append(("L23", inner.lineno))
    return found


def same_things(function):
    """Sets of names, attributes and items that a function may give the same thing."""
    groups = []
    for node in ast.walk(function):
        if not isinstance(node, (ast.Assign, ast.AnnAssign, ast.NamedExpr)):
            continue
        for target in node.targets if isinstance(node, ast.Assign) else [node.target]:
            parts = [(target, node.value)]
            if isinstance(target, ast.Tuple) and isinstance(node.value, ast.Tuple):
                parts = list(zip(target.elts, node.value.elts))
            for to, value in parts:
                group = set(given_by(to) + given_by(value))
                group |= {name for told in groups if told & group for name in told}
                groups = [told for told in groups if not told & group] + [group]
    return groups


def given_by(node):
    """The names, attributes and items, as they are written, of which an expression may give one."""
    if isinstance(node, ast.IfExp):
        return given_by(node.body) + given_by(node.orelse)
    if isinstance(node, ast.BoolOp):
        return [name for value in node.values for name in given_by(value)]
    if isinstance(node, ast.Tuple):
        return [name for value in node.elts for name in given_by(value)]
    if isinstance(node, ast.NamedExpr):
        return given_by(node.target) + given_by(node.value)
    return [ast.unparse(node)] if isinstance(node, (ast.Name, ast.Attribute, ast.Subscript)) else []


def walked_by(node):
    """What a loop walks: behind enumerate, zip, reversed, items and the like what these are of."""
    called = node.func if isinstance(node, ast.Call) else None
    if isinstance(called, ast.Name) and called.id in ("enumerate", "zip", "reversed"):
        return ast.Tuple([walked_by(one) for one in node.args], ast.Load())
    if isinstance(called, ast.Attribute) and called.attr in ("items", "keys", "values"):
        return called.value
    return node


def changed_by(node):
    """The names, attributes and items that one node changes without giving them another thing."""
    if isinstance(node, ast.Call) and isinstance(node.func, ast.Attribute) and node.func.attr in MODIFIERS:
        return given_by(node.func.value)
    if isinstance(node, ast.AugAssign):
        return given_by(node.target) + given_by(getattr(node.target, "value", None))
    if isinstance(node, ast.Subscript) and isinstance(node.ctx, (ast.Store, ast.Del)):
        return given_by(node.value)
    return []


def node_rules(node):
    """The rules that one node of the tree breaks by itself."""
    rules = []
    if isinstance(node, ast.stmt) and not isinstance(node, STATEMENTS):
        rules.append("L2" if isinstance(node, ast.Import) else "L6")
    if isinstance(node, (ast.Await, ast.AsyncFor, ast.AsyncWith, ast.TypeIgnore)):
        rules.append("L6")
    if isinstance(node, ast.ClassDef) and (node.decorator_list or node.keywords):
        rules.append("L5")
    if isinstance(node, (ast.BinOp, ast.AugAssign)) and isinstance(node.op, (ast.Div, ast.MatMult)):
        rules.append("L7")
    if isinstance(node, ast.BinOp) and isinstance(node.op, ast.Pow) and not isinstance(node.right, ast.Constant):
        rules.append("L27")
    if isinstance(node, ast.Constant):
        rules += constant_rules(node.value)
    if isinstance(node, ast.Compare):
        rules += compare_rules(node)
    if isinstance(node, ast.Call):
        rules += call_rules(node)
    if isinstance(node, ast.Attribute):
        if node.attr.startswith("_") and node.attr != "__init__":
            rules.append("L12")
        if isinstance(node.ctx, ast.Store) and node.attr in NO_ATTRIBUTES:
            rules.append("L26")
    if isinstance(node, ast.ExceptHandler):
        barred = ("Exception", "TypeError", "ArithmeticError", "OverflowError", "RuntimeError", "AttributeError")
        if node.type is None or any(name in ast.unparse(node.type) for name in barred):
            rules.append("L19")
    if isinstance(node, ast.Raise) and node.exc is not None:
        if not isinstance(node.exc, ast.Call) or not isinstance(node.exc.func, ast.Name):
            rules.append("L19")
    if isinstance(node, (ast.For, ast.comprehension)) and isinstance(node.iter, (ast.Set, ast.SetComp)):
        rules.append("L24")
    return rules


def constant_rules(value):
    if isinstance(value, (float, complex)):
        return ["L7"]
    if isinstance(value, str):
        framed = value.startswith("__") and value.endswith("__") and value != "__main__"
        if "%" in value or value.endswith(("._", ".__")) or framed:
            return ["L27"]
    return []


def compare_rules(node):
    for sign, right in zip(node.ops, node.comparators):
        if isinstance(sign, (ast.Is, ast.IsNot)):
            if ast.unparse(right) not in ("None", "True", "False"):
                return ["L20"]
    return []


def call_rules(node):
    rules = []
    called = node.func.id if isinstance(node.func, ast.Name) else ""
    if called in LIST_TAKERS and any(isinstance(one, ast.GeneratorExp) for one in node.args):
        rules.append("L5")
    if called in ("list", "tuple", "dict", "enumerate", "reversed") and node.args:
        if isinstance(node.args[0], (ast.Set, ast.SetComp)) or ast.unparse(node.args[0]).startswith("set("):
            rules.append("L24")
    if called == "isinstance" and any(isinstance(one, ast.BinOp) for one in node.args):
        rules.append("L22")
    if isinstance(node.func, ast.Attribute) and isinstance(node.func.value, ast.Constant) and node.func.attr != "join":
        rules.append("L25")
    return rules


def package_complaints(sources):
    """What a dict from file names to sources breaks as a whole: lists of (rule, what it is about)."""
    trees = {name[:-3]: ast.parse(source) for name, source in sources.items()}
    return import_complaints(trees) + member_complaints(trees)


def import_complaints(trees):
    """Imports from files that don't define the name, and files that import from one another."""
    found = []
    imported = {}
    for name, tree in trees.items():
        imported[name] = []
        for node in tree.body:
            if not isinstance(node, ast.ImportFrom):
                continue
            file = node.module.split(".")[-1]
            imported[name].append(file)
            body = trees[file].body if file in trees else []
            own = [own for one in body if not isinstance(one, ast.ImportFrom) for own in bound_names(one)]
            found += [("L16", f"{name}: {one.name}") for one in node.names if one.name not in own]
    if imported.get("__init__"):
        found.append(("L16", "__init__"))
    ended = []
    while len(ended) < len(imported):
        ready = [name for name in imported if name not in ended and all(one in ended for one in imported[name] if one in imported)]
        if not ready:
            return found + [("L16", name) for name in sorted(set(imported) - set(ended))]
        ended += ready
    return found


def member_complaints(trees):
    """Names that are methods and attributes, methods told twice, and methods and attributes that nobody defines."""
    methods, attributes, read, called, found = [], [], [], [], []
    for tree in trees.values():
        for node in ast.walk(tree):
            if isinstance(node, ast.ClassDef):
                own = [item.name for item in node.body if isinstance(item, ast.FunctionDef)]
                methods += own
                found += [("L18", one) for one in sorted(set(own)) if own.count(one) > 1]
            elif isinstance(node, ast.Attribute) and isinstance(node.ctx, ast.Store):
                attributes.append(node.attr)
            elif isinstance(node, ast.Attribute):
                read.append(node.attr)
            elif isinstance(node, ast.Call) and isinstance(node.func, ast.Attribute):
                called.append(node.func.attr)
    found += [("L18", one) for one in sorted(set(methods) & set(attributes))]
    found += [("L18", one) for one in sorted(set(read) - set(attributes) - set(methods) - METHODS) if one not in called]
    found += [("L25", one) for one in sorted(set(called) - set(methods) - set(attributes) - METHODS) if one != "sort"]
    return found
