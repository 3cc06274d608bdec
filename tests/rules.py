"""Looks through source texts for breaches of ../shared/LANGUAGE.md, as far as a script sees them."""

import ast
import builtins
import keyword
import re

PACKAGE = "sherdhall"
LIBRARY = {
    "heapq": {"heappush", "heappop", "heapify", "heapreplace", "heappushpop"},
    "math": {"gcd", "lcm", "isqrt", "comb", "perm", "factorial"},
    "itertools": {"product", "combinations", "permutations", "chain", "accumulate", "pairwise", "islice",
                  "zip_longest"},
    "collections": {"defaultdict", "deque"},
    "__future__": {"annotations"},
}
BUILTINS = set(
    "len range enumerate zip min max sum abs sorted reversed int str bool list tuple dict set isinstance ord repr any "
    "all divmod pow iter next map super Exception ValueError TypeError KeyError IndexError LookupError "
    "ZeroDivisionError ArithmeticError OverflowError RuntimeError NotImplementedError AttributeError StopIteration "
    "NotImplemented type".split())
KEYWORDS = {"sorted": {"key", "reverse"}, "min": {"key", "default"}, "max": {"key", "default"}, "sum": {"start"},
            "enumerate": {"start"}, "zip": {"strict"}}
METHODS = set(
    "append clear copy count endswith extend find get index insert isalnum isalpha isdigit islower isspace isupper "
    "items join keys ljust lower lstrip partition pop remove replace reverse rfind rjust rpartition rsplit rstrip "
    "setdefault split splitlines startswith strip update upper values zfill bit_length add discard sort format "
    "title capitalize swapcase casefold center expandtabs removeprefix removesuffix rindex isascii isdecimal "
    "isnumeric istitle isidentifier isprintable appendleft popleft extendleft rotate".split())
DOUBLE = set(
    "__init__ __eq__ __repr__ __str__ __len__ __enter__ __exit__ __call__ __iter__ __lt__ __le__ __gt__ __ge__ __ne__ "
    "__add__ __sub__ __mul__ __contains__ __getitem__ __setitem__ __bool__ __neg__".split())
NOWHERE = set("register mro elements open input law version_info with_traceback add_note".split())
NO_VARIABLES = set(
    "attrgetter breakpoint builtins compile copyright credits delattr dir eval exec exit gc globals help id importlib "
    "license locals methodcaller os quit vars sys".split())
WORDS = set(
    "typing typing_extensions enum Enum IntEnum StrEnum Flag IntFlag Generic Protocol ABC ABCMeta namedtuple "
    "NamedTuple TypedDict TYPE_CHECKING abstractmethod".split())
BARRED_NODES = (
    ast.AsyncFunctionDef, ast.AsyncFor, ast.AsyncWith, ast.Await, ast.Div, ast.MatMult, ast.GeneratorExp, ast.Global,
    ast.Import, ast.TryStar)
FILE_NAME = re.compile(r"[a-z][a-z0-9_]*\.py|__init__\.py|__main__\.py")
BARRED_FILES = {"test.py", "tests.py", "testing.py", "site.py", "conftest.py", "sitecustomize.py", "usercustomize.py"}


def breaches(name, text):
    """What is wrong in a file with this name and text: a list of texts."""
    found = [f"L1 {name}: file name"] if not right_name(name) else []
    found += [f"L10 {name}: more than 399 lines"] if len(text.splitlines()) > 399 else []
    for at, line in enumerate(text.split("\n"), 1):
        found += [f"{rule} {name}:{at}" for rule in in_line(line)]
    tree = ast.parse(text)
    found += [f"L3 {name}:{node.lineno}" for node in at_top(tree)]
    for node in ast.walk(tree):
        found += [f"{rule} {name}:{getattr(node, 'lineno', 0)}" for rule in in_node(node)]
    found += [f"{rule} {name}" for rule in in_names(tree)]
    return found


def right_name(name):
    """Whether a file may be called so."""
    stem = name[:-3]
    return (FILE_NAME.fullmatch(name) is not None and name not in BARRED_FILES
            and not name.startswith(("law_", "test_")) and stem not in vars(builtins) and stem not in LIBRARY and not keyword.iskeyword(stem))


def in_line(line):
    """The rules that a line breaks by its signs."""
    if len(line) > 120:
        yield "L10 line"
    if not all(" " <= sign <= "~" for sign in line):
        yield "L14 sign"
    code = line.split("#")[0]
    for word in re.findall(r"\w+", code):
        if word in WORDS or "dataclass" in word or "overload" in word or "contextmanager" in word:
            yield f"L17 {word}"
    if "_wall" in line:
        yield "L12 word"


def at_top(tree):
    """The statements at module level that may not stand there."""
    behind_imports = False
    for at, node in enumerate(tree.body):
        if isinstance(node, ast.ImportFrom):
            if behind_imports:
                yield node
        elif isinstance(node, ast.Expr) and at == 0 and isinstance(node.value, ast.Constant):
            continue
        elif isinstance(node, (ast.FunctionDef, ast.ClassDef)):
            behind_imports = True
        elif isinstance(node, ast.Assign) and len(node.targets) == 1 and isinstance(node.targets[0], ast.Name):
            behind_imports = True
        else:
            yield node


def in_node(node):
    """The rules that one node breaks by itself."""
    if isinstance(node, BARRED_NODES):
        yield f"L6 or L7 {type(node).__name__}"
    if isinstance(node, ast.ImportFrom):
        yield from in_import(node)
    if isinstance(node, ast.FunctionDef):
        yield from in_function(node)
    if isinstance(node, ast.ClassDef):
        yield from in_class(node)
    if isinstance(node, ast.Constant):
        yield from in_constant(node.value)
    if isinstance(node, ast.Call):
        yield from in_call(node)
    if isinstance(node, ast.Compare):
        yield from in_compare(node)
    if isinstance(node, ast.BinOp) and isinstance(node.op, ast.Pow) and not isinstance(node.right, ast.Constant):
        yield "L27 exponent"
    if isinstance(node, ast.ExceptHandler):
        if node.type is None or isinstance(node.type, ast.Name) and node.type.id in ("Exception", "TypeError"):
            yield "L19 handler"
    if isinstance(node, ast.Raise) and node.exc is not None and not isinstance(node.exc, ast.Call):
        yield "L19 raise"


def in_import(node):
    """The rules that an import breaks."""
    module = node.module or ""
    if node.level != 0 or any(one.name == "*" for one in node.names):
        yield "L2 import"
    elif module in LIBRARY:
        if any(one.name not in LIBRARY[module] or one.asname for one in node.names):
            yield "L2 library"
    elif not module.startswith(PACKAGE + ".") or module.endswith("__main__"):
        yield "L2 module"


def in_function(node):
    """The rules that a function breaks."""
    if node.end_lineno - node.lineno + 1 > 40:
        yield f"L10 function {node.name}"
    if any(not isinstance(one, ast.Name) or one.id not in ("property", "staticmethod", "classmethod")
           for one in node.decorator_list):
        yield "L4 decorator"
    if node.name.startswith("__") and node.name not in DOUBLE:
        yield f"L5 {node.name}"
    for default in node.args.defaults + [one for one in node.args.kw_defaults if one is not None]:
        if any(isinstance(one, (ast.List, ast.Dict, ast.Set, ast.Call)) for one in ast.walk(default)):
            yield "L4 default"


def in_class(node):
    """The rules that a class breaks."""
    if node.decorator_list or node.keywords:
        yield "L5 class"
    names = [one.name for one in node.body if isinstance(one, ast.FunctionDef)]
    if len(names) != len(set(names)):
        yield "L18 method twice"


def in_constant(worth):
    """The rules that a literal breaks."""
    if isinstance(worth, (float, complex)):
        yield "L7 float"
    if isinstance(worth, str):
        if "%" in worth:
            yield "L27 the sign for rests in a string"
        if len(worth) > 4 and worth.startswith("__") and worth.endswith("__") and worth != "__main__":
            yield "L27 underscores"


def in_call(node):
    """The rules that a call breaks."""
    named = node.func.id if isinstance(node.func, ast.Name) else ""
    if named in vars(builtins) and named not in BUILTINS:
        yield f"L8 {named}"
    if named in BUILTINS and any(word.arg not in KEYWORDS.get(named, ()) for word in node.keywords):
        yield f"L22 {named}"


def in_compare(node):
    """The rules that a comparison breaks."""
    for sign, right in zip(node.ops, node.comparators):
        if isinstance(sign, (ast.Is, ast.IsNot)):
            if not (isinstance(right, ast.Constant) and right.value in (None, True, False)):
                yield "L20 is"


def in_names(tree):
    """The rules that names break: those of builtins, imports and classes, those that are barred, and sets."""
    fixed = {one.name for node in ast.walk(tree) if isinstance(node, ast.ImportFrom) for one in node.names}
    fixed |= {node.name for node in ast.walk(tree) if isinstance(node, ast.ClassDef)}
    for name in sorted(bound_names(tree)):
        if name in fixed:
            yield f"L15 {name} is an import or a class"
    for name in sorted(bound_names(tree) | functions_of(tree) | fixed):
        if name in vars(builtins):
            yield f"L15 {name} is a builtin"
        if name in NOWHERE or name in NO_VARIABLES or name.startswith("__"):
            yield f"L17 {name}"
    for node in ast.walk(tree):
        if isinstance(node, ast.Attribute) and (node.attr in NOWHERE or node.attr.startswith("__")):
            if node.attr != "__init__":
                yield f"L17 {node.attr}"


def functions_of(tree):
    """The names of functions that are no methods."""
    methods = {id(one) for node in ast.walk(tree) if isinstance(node, ast.ClassDef) for one in node.body}
    return {node.name for node in ast.walk(tree) if isinstance(node, ast.FunctionDef) and id(node) not in methods}


def bound_names(tree):
    """The names of parameters and variables."""
    out = {node.arg for node in ast.walk(tree) if isinstance(node, ast.arg)}
    out |= {node.id for node in ast.walk(tree) if isinstance(node, ast.Name) and not isinstance(node.ctx, ast.Load)}
    return out | {node.name for node in ast.walk(tree) if isinstance(node, ast.ExceptHandler) and node.name}


def foreign_methods(texts):
    """The called methods that are neither own ones nor such as builtin values may be asked."""
    trees = [ast.parse(text) for text in texts]
    own = {node.name for tree in trees for node in ast.walk(tree) if isinstance(node, ast.FunctionDef)}
    called = {node.func.attr for tree in trees for node in ast.walk(tree)
              if isinstance(node, ast.Call) and isinstance(node.func, ast.Attribute)}
    return sorted(called - own - METHODS - {"__init__"})


def in_circles(texts):
    """The files, by a dict of texts, that import from each other."""
    sources = {}
    for name, text in texts.items():
        modules = [node.module or "" for node in ast.walk(ast.parse(text)) if isinstance(node, ast.ImportFrom)]
        sources[name] = {module.split(".")[1] + ".py" for module in modules if module.startswith(PACKAGE + ".")}
    left = dict(sources)
    while True:
        free = [name for name in left if not sources[name] & set(left)]
        if not free:
            return sorted(left)
        for name in free:
            del left[name]
