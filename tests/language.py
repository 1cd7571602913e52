"""A check of the package's files against those rules of LANGUAGE.md that a file shows plainly.

Each function takes the syntax tree or the text of one file and yields pairs of
a rule and a line. What needs the whole package stands in test_language.py.
"""

import ast
import builtins
import re
import warnings

PACKAGE = "rightchance"
LIBRARY = {
    "heapq": ("heappush", "heappop", "heapify", "heapreplace", "heappushpop"),
    "math": ("gcd", "lcm", "isqrt", "comb", "perm", "factorial"),
    "itertools": (
        "product", "combinations", "permutations",
        "chain", "accumulate", "pairwise", "islice", "zip_longest",
    ),
    "collections": ("defaultdict", "deque"),
}
BUILTINS = frozenset(
    "len range enumerate zip min max sum abs sorted reversed int str bool bytes list tuple dict set frozenset "
    "isinstance ord repr any all divmod pow getattr hasattr setattr map iter next property staticmethod classmethod "
    "super Exception ValueError TypeError KeyError IndexError LookupError ZeroDivisionError ArithmeticError "
    "OverflowError RuntimeError NotImplementedError AttributeError StopIteration NotImplemented".split()
)
METHODS = frozenset(
    "append clear copy count endswith extend find get index insert isalnum isalpha isdigit islower isspace isupper "
    "items join keys ljust lower lstrip partition pop remove replace reverse rfind rjust rpartition rsplit rstrip "
    "setdefault split splitlines startswith strip update upper values zfill bit_length title capitalize swapcase "
    "casefold center expandtabs removeprefix removesuffix rindex isascii isdecimal isnumeric istitle isidentifier "
    "isprintable translate maketrans sort add discard format appendleft popleft extendleft rotate "
    "from_iterable".split()
)
BARRED_NAMES = frozenset(
    "register mro elements open input law version_info with_traceback add_note attrgetter breakpoint builtins compile "
    "copyright credits delattr dir eval exec exit gc globals help id importlib license locals methodcaller os quit "
    "sys type vars".split()
)
BARRED_WORDS = (
    "typing typing_extensions enum Enum IntEnum StrEnum Flag IntFlag Generic Protocol ABC ABCMeta namedtuple "
    "NamedTuple TypedDict TYPE_CHECKING abstractmethod".split()
)
DOUBLE_UNDERSCORE = re.compile(
    r"__(init|eq|ne|lt|le|gt|ge|repr|str|len|enter|exit|call|iter|contains|getitem|setitem|bool|neg|pos|invert|abs|"
    r"[ri]?(add|sub|mul|floordiv|mod|and|or|xor|lshift|rshift)|pow|ipow)__"
)
STATEMENTS = (
    ast.Module, ast.Assign, ast.AugAssign, ast.AnnAssign, ast.If, ast.While, ast.For, ast.Return, ast.Break,
    ast.Continue, ast.Pass, ast.Raise, ast.Assert, ast.Delete, ast.Nonlocal, ast.Global, ast.Match, ast.match_case,
    ast.With, ast.withitem, ast.Try, ast.ExceptHandler, ast.Expr, ast.ImportFrom, ast.alias, ast.FunctionDef,
    ast.ClassDef, ast.arguments, ast.arg, ast.keyword,
)
EXPRESSIONS = (
    ast.Yield, ast.YieldFrom, ast.Lambda, ast.BinOp, ast.UnaryOp, ast.BoolOp, ast.Compare, ast.IfExp, ast.Call,
    ast.Attribute, ast.Subscript, ast.Slice, ast.Name, ast.Constant, ast.List, ast.Tuple, ast.Dict, ast.Set,
    ast.ListComp, ast.DictComp, ast.SetComp, ast.GeneratorExp, ast.comprehension, ast.Starred, ast.JoinedStr,
    ast.FormattedValue, ast.NamedExpr,
)
SIGNS = (
    ast.Add, ast.Sub, ast.Mult, ast.FloorDiv, ast.Mod, ast.Pow, ast.LShift, ast.RShift, ast.BitAnd, ast.BitOr,
    ast.BitXor, ast.unaryop, ast.boolop, ast.cmpop, ast.expr_context, ast.pattern,
)
COMPREHENSIONS = (ast.ListComp, ast.DictComp, ast.SetComp, ast.GeneratorExp)
TAKES_GENERATORS = ("list", "tuple", "dict", "sorted", "sum", "min", "max", "any", "all")


def faults_of(text):
    """The faults of one file, as a sorted list of pairs of a rule and a line."""
    faults = list(layout_faults(text)) + list(warning_faults(text))
    tree = ast.parse(text)
    for check in (
        module_faults, import_faults, node_faults, constant_faults, name_faults, word_faults,
        builtin_faults, function_faults, error_faults, is_faults, set_faults, generator_faults,
    ):
        faults.extend(check(tree))
    return sorted(faults)


def layout_faults(text):
    lines = text.split("\n")
    if len(lines) - 1 > 399:
        yield "L10", len(lines)
    for number, line in enumerate(lines, start=1):
        if len(line) > 120 or "\t" in line:
            yield "L10", number
        if any(not " " <= sign <= "~" for sign in line.replace("\t", "")):
            yield "L14", number
        if "_wall" in line:
            yield "L12", number


def warning_faults(text):
    with warnings.catch_warnings(record=True) as seen:
        warnings.simplefilter("always")
        compile(text, "file", "exec")
    for warning in seen:
        yield "L27", warning.lineno


def is_docstring(node):
    return isinstance(node, ast.Expr) and isinstance(node.value, ast.Constant) and isinstance(node.value.value, str)


def module_faults(tree):
    for place, node in enumerate(tree.body):
        plain = isinstance(node, ast.Assign) and len(node.targets) == 1 and isinstance(node.targets[0], ast.Name)
        other = isinstance(node, (ast.ImportFrom, ast.FunctionDef, ast.ClassDef))
        if not (plain or other or (place == 0 and is_docstring(node))):
            yield "L3", node.lineno
        if plain:
            for part in ast.walk(node.value):
                if isinstance(part, (ast.Call, ast.Lambda) + COMPREHENSIONS):
                    yield "L3", part.lineno


def import_faults(tree):
    seen_other = False
    for place, node in enumerate(tree.body):
        if isinstance(node, ast.ImportFrom) and seen_other:
            yield "L2", node.lineno
        seen_other = seen_other or not (isinstance(node, ast.ImportFrom) or (place == 0 and is_docstring(node)))
    for node in ast.walk(tree):
        if isinstance(node, ast.Import):
            yield "L2", node.lineno
        if isinstance(node, ast.ImportFrom):
            own = node.level == 0 and (node.module or "").startswith(PACKAGE + ".")
            known = LIBRARY.get(node.module, ())
            for alias in node.names:
                if alias.asname is not None or not ((own and alias.name != "*") or alias.name in known):
                    yield "L2", node.lineno


def node_faults(tree):
    for node in ast.walk(tree):
        if not isinstance(node, STATEMENTS + EXPRESSIONS + SIGNS):
            yield "L6/L7", getattr(node, "lineno", 0)


def docstrings_of(tree):
    """The constants of the tree that are docstrings, by their identity."""
    found = set()
    for node in ast.walk(tree):
        if isinstance(node, (ast.Module, ast.ClassDef, ast.FunctionDef)) and node.body and is_docstring(node.body[0]):
            found.add(id(node.body[0].value))
    return found


def constant_faults(tree):
    docstrings = docstrings_of(tree)
    for node in ast.walk(tree):
        if isinstance(node, ast.BinOp) and isinstance(node.op, ast.Pow):
            exponent = node.right
            if isinstance(exponent, ast.Constant) and not 0 <= exponent.value <= 64:
                yield "L27", node.lineno
        if isinstance(node, ast.Constant):
            value = node.value
            if isinstance(value, (float, complex)):
                yield "L7", node.lineno
            if isinstance(value, int) and abs(value) >= 10 ** 900:
                yield "L27", node.lineno
            if isinstance(value, str) and id(node) not in docstrings and "%" in value:
                yield "L27", node.lineno


def bound_names(tree):
    """The names that the file gives a meaning, with their lines."""
    for node in ast.walk(tree):
        if isinstance(node, ast.Name) and not isinstance(node.ctx, ast.Load):
            yield node.id, node.lineno
        elif isinstance(node, ast.arg):
            yield node.arg, node.lineno
        elif isinstance(node, (ast.FunctionDef, ast.ClassDef)):
            yield node.name, node.lineno
        elif isinstance(node, ast.alias):
            yield node.asname or node.name, node.lineno
        elif isinstance(node, ast.ExceptHandler) and node.name:
            yield node.name, node.lineno
        elif isinstance(node, (ast.MatchAs, ast.MatchStar)) and node.name:
            yield node.name, node.lineno


def methods_of(tree):
    """The functions that stand in the body of a class, by their identity."""
    classes = [node for node in ast.walk(tree) if isinstance(node, ast.ClassDef)]
    return {id(part): part for node in classes for part in node.body if isinstance(part, ast.FunctionDef)}


def name_faults(tree):
    methods = [node.name for node in methods_of(tree).values()]
    for name, line in bound_names(tree):
        double = name in methods and DOUBLE_UNDERSCORE.fullmatch(name)
        if not (double or name in ("_", "__slots__") or re.fullmatch("_?[A-Za-z][A-Za-z0-9_]*", name)):
            yield "L12", line
        if hasattr(builtins, name) and name not in methods:
            yield "L15", line
        if name in BARRED_NAMES:
            yield "L17", line
    for node in ast.walk(tree):
        if isinstance(node, ast.Name) and node.id == "_" and isinstance(node.ctx, ast.Load):
            yield "L12", node.lineno
    yield from double_binding_faults(tree)


def double_binding_faults(tree):
    names = []
    for node in tree.body:
        if isinstance(node, (ast.FunctionDef, ast.ClassDef)):
            names.append((node.name, node.lineno))
        elif isinstance(node, ast.ImportFrom):
            names.extend((alias.name, node.lineno) for alias in node.names)
        elif isinstance(node, ast.Assign):
            names.extend((target.id, node.lineno) for target in node.targets if isinstance(target, ast.Name))
    seen = {}
    for name, line in names:
        if name in seen:
            yield "L15", line
        seen[name] = True
    fixed = [node.name for node in tree.body if isinstance(node, ast.ClassDef)]
    fixed.extend(alias.name for node in tree.body if isinstance(node, ast.ImportFrom) for alias in node.names)
    at_top = [id(node) for node in tree.body]
    for node in ast.walk(tree):
        inner = isinstance(node, ast.Name) and not isinstance(node.ctx, ast.Load) and node.id in fixed
        argument = isinstance(node, ast.arg) and node.arg in fixed
        nested = isinstance(node, ast.FunctionDef) and node.name in fixed
        if inner or argument or (nested and id(node) not in at_top and id(node) not in methods_of(tree)):
            yield "L15", node.lineno


def word_faults(tree):
    docstrings = docstrings_of(tree)
    for node in ast.walk(tree):
        texts = []
        if isinstance(node, ast.Constant) and isinstance(node.value, str) and id(node) not in docstrings:
            texts.append(node.value)
        if isinstance(node, ast.Attribute):
            texts.append(node.attr)
            if node.attr in ("format_map", "mro", "args", "encode", "decode"):
                yield "L26", node.lineno
        if isinstance(node, ast.Name):
            texts.append(node.id)
        for text in texts:
            for word in re.findall("[A-Za-z_0-9]+", text):
                if word in BARRED_WORDS or re.search("dataclass|overload|contextmanager", word):
                    yield "L17", node.lineno


def builtin_faults(tree):
    bound = {name for name, _ in bound_names(tree)}
    own_methods = {node.name for node in methods_of(tree).values()}
    for node in ast.walk(tree):
        if isinstance(node, ast.Name) and isinstance(node.ctx, ast.Load) and node.id not in bound:
            if node.id not in BUILTINS:
                yield "L8", node.lineno
        if isinstance(node, ast.Call) and isinstance(node.func, ast.Attribute):
            name = node.func.attr
            # The name of a method of another file's class is no method of a builtin value either.
            strange = any(hasattr(kind, name) for kind in (str, list, dict, set, tuple, int, bytes))
            if strange and name not in METHODS and name not in own_methods and name != "__init__":
                yield "L25", node.lineno


def is_plain_default(node):
    if isinstance(node, ast.Tuple):
        return all(is_plain_default(part) for part in node.elts)
    if isinstance(node, ast.UnaryOp):
        return isinstance(node.op, ast.USub) and isinstance(node.operand, ast.Constant)
    return isinstance(node, (ast.Constant, ast.Name, ast.BinOp))


def function_faults(tree):
    for node in ast.walk(tree):
        if isinstance(node, ast.ClassDef) and node.decorator_list:
            yield "L5", node.lineno
        if isinstance(node, (ast.FunctionDef, ast.Lambda)):
            defaults = node.args.defaults + [part for part in node.args.kw_defaults if part is not None]
            if not all(is_plain_default(part) for part in defaults):
                yield "L4", node.lineno
        if isinstance(node, ast.FunctionDef):
            if node.end_lineno - node.lineno + 1 > 40:
                yield "L10", node.lineno
            for decorator in node.decorator_list:
                known = isinstance(decorator, ast.Name) and decorator.id in ("property", "staticmethod", "classmethod")
                if not known and not (isinstance(decorator, ast.Attribute) and decorator.attr == "setter"):
                    yield "L4", node.lineno


def error_faults(tree):
    barred = ("Exception", "BaseException", "TypeError", "ArithmeticError", "OverflowError", "RuntimeError",
              "NotImplementedError", "AttributeError")
    for node in ast.walk(tree):
        if isinstance(node, ast.ExceptHandler):
            named = node.type.elts if isinstance(node.type, ast.Tuple) else [node.type]
            for part in named:
                if not isinstance(part, ast.Name) or part.id in barred:
                    yield "L19", node.lineno
        if isinstance(node, ast.Raise) and node.exc is not None:
            if not (isinstance(node.exc, ast.Call) and isinstance(node.exc.func, ast.Name)):
                yield "L19", node.lineno


def is_faults(tree):
    for node in ast.walk(tree):
        if isinstance(node, ast.Compare):
            sides = [node.left] + node.comparators
            for place, sign in enumerate(node.ops):
                pair = sides[place:place + 2]
                single = any(isinstance(side, ast.Constant) and side.value in (None, True, False) for side in pair)
                held = any(isinstance(side, ast.Name) and side.id == "self" for side in pair)
                if isinstance(sign, (ast.Is, ast.IsNot)) and not single and not held:
                    yield "L20", node.lineno


def parents_of(tree):
    return {id(child): node for node in ast.walk(tree) for child in ast.iter_child_nodes(node)}


def is_call_of(node, names):
    return isinstance(node, ast.Call) and isinstance(node.func, ast.Name) and node.func.id in names


def set_faults(tree):
    parents = parents_of(tree)
    for node in ast.walk(tree):
        if isinstance(node, (ast.Set, ast.SetComp)) or is_call_of(node, ("set",)):
            above = parents[id(node)]
            stored = isinstance(above, ast.Assign) and isinstance(above.targets[0], ast.Name)
            counted = is_call_of(above, ("sorted", "len"))
            joined = isinstance(above, ast.BinOp) and isinstance(above.op, (ast.Sub, ast.BitAnd, ast.BitOr, ast.BitXor))
            if not (stored or counted or joined or isinstance(above, ast.Compare)):
                yield "L24", node.lineno


def generator_faults(tree):
    parents = parents_of(tree)
    for node in ast.walk(tree):
        if isinstance(node, COMPREHENSIONS):
            above = node
            while id(above) in parents and not isinstance(above, (ast.FunctionDef, ast.Lambda)):
                above = parents[id(above)]
            if isinstance(above, ast.Module):
                yield "L7", node.lineno
        if isinstance(node, ast.GeneratorExp):
            above = parents[id(node)]
            joined = isinstance(above, ast.Call) and isinstance(above.func, ast.Attribute) and above.func.attr == "join"
            if not joined and not is_call_of(above, TAKES_GENERATORS + ("next",)):
                yield "L7", node.lineno
