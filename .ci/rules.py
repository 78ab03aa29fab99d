"""Looks for breaches of the rules of shared/LANGUAGE.md that a program can find. Prints each with rule and row."""

import ast
import builtins
import pathlib
import sys

PACKAGE = pathlib.Path(__file__).resolve().parent.parent / "loghouse"

ALLOWED_BUILTINS = set(
    "len range enumerate zip min max sum abs sorted reversed int str bool bytes list tuple dict set frozenset"
    " isinstance ord repr any all divmod iter next map object float Exception ValueError TypeError KeyError IndexError"
    " LookupError ZeroDivisionError ArithmeticError OverflowError RuntimeError NotImplementedError"
    " AttributeError StopIteration NotImplemented property staticmethod classmethod super".split()
)
KEYWORDS = {
    "sorted": {"key", "reverse"}, "min": {"key", "default"}, "max": {"key", "default"}, "sum": {"start"},
    "enumerate": {"start"}, "zip": {"strict"},
}
LIBRARY = {
    "heapq": {"heappush", "heappop", "heapify", "heapreplace", "heappushpop"},
    "math": {"gcd", "lcm", "isqrt", "comb", "perm", "factorial"},
    "itertools": {"product", "combinations", "permutations"},
}
METHODS = set(
    "append clear copy count endswith extend find get index insert isalnum isalpha isdigit islower isspace isupper"
    " items join keys ljust lower lstrip partition pop remove replace reverse rfind rjust rpartition rsplit rstrip"
    " setdefault split splitlines startswith strip update upper values zfill bit_length sort add discard"
    " title capitalize swapcase casefold center expandtabs removeprefix removesuffix rindex isascii isdecimal"
    " isnumeric istitle isidentifier isprintable translate encode decode hex".split()
)
BUILTIN_METHODS = {
    name for kind in (str, bytes, int, list, tuple, dict, set) for name in dir(kind) if not name.startswith("_")
}
BARRED_ATTRIBUTES = set(
    "items keys values pop update append clear extend insert remove reverse setdefault sort args encode decode hex"
    " fromhex format format_map mro as_integer_ratio bit_count conjugate from_bytes is_integer to_bytes".split()
)
BARRED_NAMES = set(
    "register mro elements open input law version_info with_traceback add_note attrgetter breakpoint builtins"
    " compile copyright credits delattr dir eval exec exit gc getattr globals hasattr help id importlib license"
    " locals methodcaller os quit setattr type vars".split()
)
BARRED_WORDS = set(
    "type typing typing_extensions enum Enum IntEnum StrEnum Flag IntFlag Generic Protocol ABC ABCMeta namedtuple"
    " NamedTuple TypedDict TYPE_CHECKING abstractmethod".split()
)
SPECIAL = set(
    "__init__ __eq__ __repr__ __str__ __len__ __enter__ __exit__ __call__ __iter__ __lt__ __le__ __gt__ __ge__ __ne__"
    " __add__ __sub__ __mul__ __and__ __or__ __xor__ __contains__ __getitem__ __setitem__ __bool__ __neg__".split()
)
BARRED_NODES = (
    ast.Import, ast.Global, ast.AsyncFunctionDef, ast.AsyncFor, ast.AsyncWith, ast.Await, ast.Div, ast.MatMult,
    ast.TryStar, ast.MatchClass, ast.MatchMapping,
)
VIEWS = {"items", "keys", "values"}
CHANGING = set("append clear extend insert pop remove reverse setdefault update sort add discard".split())
LIBRARY_NAMES = {name for names in LIBRARY.values() for name in names}
CAUGHT_NEVER = {"Exception", "TypeError", "ArithmeticError", "OverflowError", "RuntimeError", "AttributeError"}
TAKES_GENERATOR = {"list", "tuple", "dict"}


class File:
    """One file of the package, with what is wrong in it."""

    def __init__(self, path):
        self.path = path
        self.text = path.read_text(encoding="utf-8")
        self.tree = ast.parse(self.text)
        self.found = []
        for node in ast.walk(self.tree):
            for child in ast.iter_child_nodes(node):
                child.above = node

    def tell(self, rule, node, what):
        row = node if isinstance(node, int) else getattr(node, "lineno", 0)
        self.found.append(f"{self.path.name}:{row}: {rule}: {what}")

    def defined(self):
        names = set()
        for node in self.tree.body:
            if isinstance(node, (ast.FunctionDef, ast.ClassDef)):
                names.add(node.name)
            elif isinstance(node, ast.Assign):
                names.update(target.id for target in node.targets if isinstance(target, ast.Name))
        return names


def check_characters(file):
    lines = file.text.split("\n")
    if len(lines) - 1 > 399:
        file.tell("L10", len(lines), "file too long")
    for row, line in enumerate(lines, start=1):
        if len(line) > 120:
            file.tell("L10", row, "line too long")
        if any(not " " <= sign <= "~" for sign in line):
            file.tell("L14", row, "character")
    if file.path.name != file.path.name.lower():
        file.tell("L14", 0, "file name")


def check_module(file):
    for at, node in enumerate(file.tree.body):
        docstring = at == 0 and isinstance(node, ast.Expr) and isinstance(node.value, ast.Constant)
        plain = isinstance(node, ast.Assign) and len(node.targets) == 1 and isinstance(node.targets[0], ast.Name)
        if not (docstring or plain or isinstance(node, (ast.ImportFrom, ast.FunctionDef, ast.ClassDef))):
            file.tell("L3", node, "statement at module level")
        if plain and any(isinstance(part, (ast.Call, ast.comprehension)) for part in ast.walk(node)):
            file.tell("L3", node, "no plain value")


def check_imports(file, files):
    for node in ast.walk(file.tree):
        if not isinstance(node, ast.ImportFrom):
            continue
        if node.above is not file.tree or node.level != 0:
            file.tell("L2", node, "import")
        for name in node.names:
            if name.asname is not None or name.name == "*":
                file.tell("L2", node, "import with as or star")
            known = LIBRARY.get(node.module)
            if known is None:
                other = files.get(node.module)
                known = set() if other is None else other.defined()
            if name.name not in known:
                file.tell("L16", node, f"{name.name} is not defined in {node.module}")


def check_cycles(files):
    links = {
        name: {node.module for node in file.tree.body if isinstance(node, ast.ImportFrom) and node.module in files}
        for name, file in files.items()
    }
    for start in links:
        reached, new = set(), set(links[start])
        while new:
            reached |= new
            new = set().union(*[links[name] for name in new]) - reached
        if start in reached:
            files[start].tell("L16", 0, "files import from each other")


def check_names(file, node):
    names = []
    if isinstance(node, ast.Name) and isinstance(node.ctx, ast.Store):
        names.append(node.id)
    elif isinstance(node, (ast.FunctionDef, ast.ClassDef)):
        names.append(node.name)
    elif isinstance(node, ast.arg):
        names.append(node.arg)
    elif isinstance(node, ast.ExceptHandler) and node.name:
        names.append(node.name)
    method = isinstance(node, ast.FunctionDef) and isinstance(node.above, ast.ClassDef)
    for name in names:
        if name.startswith("__") and not (method and name in SPECIAL):
            file.tell("L8", node, name)
        if name in BARRED_NAMES or (not method and hasattr(builtins, name)):
            file.tell("L15", node, name)
        if method and name in BARRED_ATTRIBUTES - METHODS:
            file.tell("L26", node, name)
    if isinstance(node, ast.Attribute) and isinstance(node.ctx, ast.Store) and node.attr in BARRED_ATTRIBUTES:
        file.tell("L26", node, node.attr)
    if isinstance(node, ast.Attribute) and node.attr in ("register", "mro", "elements", "open", "input", "law"):
        file.tell("L17", node, node.attr)
    if isinstance(node, ast.Name) and isinstance(node.ctx, ast.Load):
        if hasattr(builtins, node.id) and node.id not in ALLOWED_BUILTINS:
            file.tell("L8", node, node.id)


def check_size(file, node):
    if isinstance(node, ast.FunctionDef) and node.end_lineno - node.lineno + 1 > 40:
        file.tell("L10", node, f"{node.name} is too long")


def check_constants(file, node):
    if not isinstance(node, ast.Constant):
        return
    if isinstance(node.value, (float, complex)):
        file.tell("L7", node, "float")
    if isinstance(node.value, str):
        if "%" in node.value:
            file.tell("L27", node, "% in a string")
        docstring = isinstance(node.above, ast.Expr)
        if not docstring and set(node.value.replace(".", " ").split()) & (BARRED_WORDS - {"type"}):
            file.tell("L17", node, "word in a string")


def check_calls(file, node, own):
    if not isinstance(node, ast.Call):
        return
    if isinstance(node.func, ast.Attribute):
        name = node.func.attr
        if name in BUILTIN_METHODS and name not in METHODS and name not in own:
            file.tell("L25", node, name)
        if node.keywords and name in METHODS - {"sort"}:
            file.tell("L25", node, f"keyword of {name}")
    if isinstance(node.func, ast.Name):
        name = node.func.id
        words = {keyword.arg for keyword in node.keywords}
        if hasattr(builtins, name) and words - KEYWORDS.get(name, set()):
            file.tell("L22", node, f"keyword of {name}")


def check_sets(file, node):
    call = isinstance(node, ast.Call) and isinstance(node.func, ast.Name) and node.func.id in ("set", "frozenset")
    if not call and not isinstance(node, (ast.Set, ast.SetComp)):
        return
    above = node.above
    while isinstance(above, ast.BinOp):
        above = above.above
    within = isinstance(above, ast.Call) and isinstance(above.func, ast.Name) and above.func.id in ("sorted", "len")
    if not within and not isinstance(above, (ast.Compare, ast.Assign)):
        file.tell("L24", node, "set")


def check_expressions(file, node):
    if isinstance(node, BARRED_NODES):
        file.tell("L6", node, type(node).__name__)
    if isinstance(node, ast.BinOp) and isinstance(node.op, ast.Pow):
        if not isinstance(node.right, ast.Constant) or not 0 <= node.right.value <= 64:
            file.tell("L27", node, "power")
    if isinstance(node, ast.Compare) and any(isinstance(op, (ast.Is, ast.IsNot)) for op in node.ops):
        if not all(isinstance(side, ast.Constant) for side in node.comparators):
            file.tell("L20", node, "is")
    if isinstance(node, ast.GeneratorExp):
        taker = node.above.func if isinstance(node.above, ast.Call) else None
        if not (isinstance(taker, ast.Name) and taker.id in TAKES_GENERATOR) and not isinstance(taker, ast.Attribute):
            file.tell("L7", node, "generator expression")
    if isinstance(node, ast.ExceptHandler):
        named = [] if node.type is None else ast.walk(node.type)
        caught = {part.id for part in named if isinstance(part, ast.Name)}
        if not caught or caught & CAUGHT_NEVER:
            file.tell("L19", node, "handler")
    if isinstance(node, ast.Raise) and node.exc is not None:
        if not isinstance(node.exc, ast.Call) or not isinstance(node.exc.func, ast.Name):
            file.tell("L19", node, "raise")


def check_decorators(file, node):
    if isinstance(node, ast.ClassDef) and node.decorator_list:
        file.tell("L5", node, "decorator")
    if isinstance(node, ast.FunctionDef):
        for decorator in node.decorator_list:
            plain = isinstance(decorator, ast.Name) and decorator.id in ("property", "staticmethod", "classmethod")
            if not plain and not (isinstance(decorator, ast.Attribute) and decorator.attr == "setter"):
                file.tell("L4", node, "decorator")


def bases_of(node):
    """What an expression in the head of a loop iterates over, as it is written."""
    if isinstance(node, ast.Call) and isinstance(node.func, ast.Attribute) and node.func.attr in VIEWS:
        return bases_of(node.func.value)
    if isinstance(node, ast.Call) and isinstance(node.func, ast.Name) and node.func.id in ("enumerate", "zip", "reversed"):
        return {base for part in node.args for base in bases_of(part)}
    return {ast.unparse(node)} if isinstance(node, (ast.Name, ast.Attribute, ast.Subscript)) else set()


def check_loops(file, node):
    if not isinstance(node, ast.For):
        return
    bases = bases_of(node.iter)
    for part in [inner for statement in node.body for inner in ast.walk(statement)]:
        changed = None
        if isinstance(part, ast.Subscript) and isinstance(part.ctx, (ast.Store, ast.Del)):
            changed = part.value
        elif isinstance(part, ast.AugAssign):
            changed = part.target
        elif isinstance(part, ast.Call) and isinstance(part.func, ast.Attribute) and part.func.attr in CHANGING:
            changed = part.func.value
        elif isinstance(part, ast.Call) and isinstance(part.func, ast.Name) and part.func.id in LIBRARY["heapq"]:
            changed = part.args[0]
        if changed is not None and ast.unparse(changed) in bases:
            file.tell("L23", part, f"{ast.unparse(changed)} is changed in a loop over it")


def check_bindings(file):
    imported = {
        name.name for node in file.tree.body if isinstance(node, ast.ImportFrom) for name in node.names
    }
    classes = {node.name for node in file.tree.body if isinstance(node, ast.ClassDef)}
    bound = [node.name for node in file.tree.body if isinstance(node, (ast.FunctionDef, ast.ClassDef))]
    bound += [target.id for node in file.tree.body if isinstance(node, ast.Assign) for target in node.targets]
    bound += sorted(imported)
    for name in sorted({name for name in bound if bound.count(name) > 1}):
        file.tell("L15", 0, f"{name} is bound twice")
    used = {node.id for node in ast.walk(file.tree) if isinstance(node, ast.Name) and isinstance(node.ctx, ast.Load)}
    for name in sorted(imported - used):
        file.tell("L16", 0, f"{name} is imported and not used")
    for node in ast.walk(file.tree):
        name = node.arg if isinstance(node, ast.arg) else None
        if isinstance(node, ast.Name) and isinstance(node.ctx, ast.Store) and node.above is not file.tree:
            name = node.id
        if name in imported | classes:
            file.tell("L15", node, f"{name} is an import or a class of the file")
        if isinstance(node, ast.Name) and node.id in LIBRARY_NAMES & imported:
            if not isinstance(node.above, ast.Call) or node.above.func is not node:
                file.tell("L2", node, f"{node.id} is not called")


def check_all(package):
    paths = sorted(path for path in package.rglob("*") if "__pycache__" not in path.parts)
    found = [f"{path.name}: L1: no file of the package" for path in paths if path.suffix != ".py" and path.is_file()]
    files = {f"loghouse.{path.stem}": File(path) for path in paths if path.suffix == ".py"}
    own = {
        node.name for file in files.values() for node in ast.walk(file.tree) if isinstance(node, ast.FunctionDef)
    }
    for file in files.values():
        check_characters(file)
        check_module(file)
        check_imports(file, files)
        check_bindings(file)
        for node in ast.walk(file.tree):
            check_names(file, node)
            check_size(file, node)
            check_constants(file, node)
            check_calls(file, node, own)
            check_sets(file, node)
            check_expressions(file, node)
            check_decorators(file, node)
            check_loops(file, node)
    check_cycles(files)
    return found + [line for file in files.values() for line in file.found]


if __name__ == "__main__":
    BREACHES = check_all(PACKAGE)
    print("\n".join(BREACHES) if BREACHES else "no breach of the rules found")
    sys.exit(1 if BREACHES else 0)
