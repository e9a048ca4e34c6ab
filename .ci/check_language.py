"""Check the files of a package against those rules of ../shared/LANGUAGE.md that can be told from single lines.

It is stricter than the rules where that is simpler; what it does not see is still to be kept.
"""

import ast
import builtins
import re
import sys
from pathlib import Path

BUILTINS = set("""
    len range enumerate zip min max sum abs sorted reversed int str bool bytes list tuple dict set isinstance ord repr
    any all divmod pow iter next map Exception ValueError TypeError KeyError IndexError LookupError ZeroDivisionError
    NotImplemented
""".split())
CAUGHT = {"KeyError", "ZeroDivisionError"}
LIBRARY = {
    "heapq": {"heappush", "heappop", "heapify", "heapreplace", "heappushpop"},
    "math": {"gcd", "lcm", "isqrt", "comb", "perm", "factorial"},
    "itertools": {"product", "combinations", "permutations", "chain", "accumulate", "pairwise", "islice"},
    "collections": {"defaultdict"},
}
METHODS = set("""
    append clear copy count endswith extend find get index insert isalnum isalpha isdigit islower isspace isupper items
    join keys ljust lower lstrip partition pop remove replace reverse rfind rjust rpartition rsplit rstrip setdefault
    split splitlines startswith strip update upper values zfill bit_length add discard __init__
""".split())
DUNDERS = set("""
    __init__ __eq__ __repr__ __str__ __len__ __contains__ __getitem__ __iter__ __lt__ __le__ __gt__ __ge__ __bool__
""".split())
DECORATORS = {"property", "staticmethod", "classmethod"}
BARRED_NAMES = set("""
    register mro elements open input law version_info with_traceback add_note attrgetter breakpoint builtins compile
    copyright credits delattr dir eval exec exit gc getattr globals hasattr help id importlib license locals
    methodcaller os quit setattr super type vars sys
""".split())
BARRED_WORDS = set("""
    type typing typing_extensions enum Enum IntEnum StrEnum Flag IntFlag Generic Protocol ABC ABCMeta namedtuple
    NamedTuple TypedDict TYPE_CHECKING abstractmethod dataclass overload contextmanager Meta
""".split())
BARRED_NODES = (
    ast.Global, ast.AsyncFunctionDef, ast.AsyncFor, ast.AsyncWith, ast.Await, ast.TryStar, ast.Div, ast.MatMult,
    ast.GeneratorExp, ast.Import, ast.AnnAssign,
)
# What may go over a set on the spot; a plain name may hold one (Stored sets).
SET_USERS = (ast.Compare, ast.BinOp, ast.Assign)


def defined_names(tree):
    """The names that a file defines at module level, imports left out."""
    names = [part.name for part in tree.body if isinstance(part, (ast.FunctionDef, ast.ClassDef))]
    for part in tree.body:
        if isinstance(part, ast.Assign):
            names.extend(target.id for target in part.targets if isinstance(target, ast.Name))
    return names


def imported_names(tree):
    return [alias.name for part in tree.body if isinstance(part, ast.ImportFrom) for alias in part.names]


def docstrings(tree):
    """The constants that are docstrings."""
    holders = [part for part in ast.walk(tree) if isinstance(part, (ast.Module, ast.ClassDef, ast.FunctionDef))]
    first = [part.body[0] for part in holders if part.body]
    return {id(part.value) for part in first if isinstance(part, ast.Expr) and isinstance(part.value, ast.Constant)}


def check_lines(path, text):
    lines = text.split("\n")
    if len(lines) > 400 or not text.endswith("\n"):
        yield 1, "L10: more than 399 lines, or no line feed at the end"
    for number, line in enumerate(lines, 1):
        if len(line) > 120:
            yield number, "L10: more than 120 characters"
        if not all(" " <= sign <= "~" for sign in line):
            yield number, "L14: a character that is not plain"
        if "_wall" in line or "_Wall" in line:
            yield number, "L12: _wall"


def check_module(tree, package, defined):
    allowed = (ast.ImportFrom, ast.FunctionDef, ast.ClassDef, ast.Assign)
    for at, part in enumerate(tree.body):
        is_doc = at == 0 and isinstance(part, ast.Expr) and isinstance(part.value, ast.Constant)
        if not is_doc and not isinstance(part, allowed):
            yield part.lineno, "L3: not allowed at module level"
        if isinstance(part, ast.ImportFrom):
            yield from check_import(part, package, defined)
    bound = defined_names(tree) + imported_names(tree)
    for name in sorted({name for name in bound if bound.count(name) > 1}):
        yield 1, f"L15: {name} is bound twice"


def check_import(part, package, defined):
    source = part.module or ""
    if part.level or any(alias.asname or alias.name == "*" for alias in part.names):
        yield part.lineno, "L2: a form of import that is not allowed"
    elif source.startswith(package + "."):
        for alias in part.names:
            if alias.name not in defined.get(source, ()):
                yield part.lineno, f"L16: {source} does not define {alias.name}"
    elif not {alias.name for alias in part.names} <= LIBRARY.get(source, set()):
        yield part.lineno, f"L2: import from {source}"


def check_names(tree, node):
    """Names that are bound or read."""
    bound = []
    if isinstance(node, ast.Name):
        if isinstance(node.ctx, ast.Load) and node.id in dir(builtins) and node.id not in BUILTINS | DECORATORS:
            yield "L8: a builtin that is not allowed"
        if not isinstance(node.ctx, ast.Load):
            bound = [node.id]
    elif isinstance(node, ast.arg):
        bound = [node.arg]
    elif isinstance(node, (ast.FunctionDef, ast.ClassDef)):
        bound = [node.name]
    for name in bound:
        if name in dir(builtins) or name in BARRED_NAMES:
            yield f"L15, L17: {name}"
        if name not in DUNDERS and not re.fullmatch("_?[A-Za-z][A-Za-z0-9_]*|_", name):
            yield f"L12: {name}"
        if name in imported_names(tree):
            yield f"L15: {name} is imported, too"


def check_function(node):
    if node.end_lineno - node.lineno >= 40:
        yield "L10: more than 40 lines"
    if node.name.startswith("__") and node.name not in DUNDERS:
        yield f"L5: {node.name}"
    for mark in node.decorator_list:
        setter = isinstance(mark, ast.Attribute) and mark.attr == "setter"
        if not setter and not (isinstance(mark, ast.Name) and mark.id in DECORATORS):
            yield "L4: a decorator that is not allowed"


def check_node(node, methods, errors, docs):
    """One expression or statement, whatever stands around it."""
    if isinstance(node, BARRED_NODES):
        yield f"L6, L7: {node.__class__.__name__}"
    elif isinstance(node, ast.FunctionDef):
        yield from check_function(node)
    elif isinstance(node, ast.Constant) and id(node) not in docs:
        yield from check_constant(node.value)
    elif isinstance(node, ast.Compare) and any(isinstance(sign, (ast.Is, ast.IsNot)) for sign in node.ops):
        if not isinstance(node.comparators[0], ast.Constant):
            yield "L20: is without None, True or False"
    elif isinstance(node, ast.BinOp) and isinstance(node.op, ast.Pow) and not isinstance(node.right, ast.Constant):
        yield "L27: an exponent that is no literal"
    elif isinstance(node, ast.Call) and isinstance(node.func, ast.Attribute):
        if node.func.attr not in METHODS | methods:
            yield f"L25: the method {node.func.attr}"
    elif isinstance(node, ast.ExceptHandler):
        named = node.type.elts if isinstance(node.type, ast.Tuple) else [node.type]
        if not all(isinstance(part, ast.Name) and part.id in CAUGHT | errors for part in named):
            yield "L19: an error that is not caught so"


def check_constant(value):
    if isinstance(value, (float, complex)):
        yield "L7: a number that is no integer"
    if isinstance(value, str):
        if "%" in value:
            yield "L27: a per cent sign in a string"
        if BARRED_WORDS & set(re.findall("[A-Za-z_]+", value)):
            yield "L17: a word that is not used"


def check_sets(tree):
    """A set stands where it is used up, or is kept in a plain name."""
    for node in ast.walk(tree):
        for part in ast.iter_child_nodes(node):
            made = isinstance(part, ast.Call) and isinstance(part.func, ast.Name) and part.func.id == "set"
            if not made and not isinstance(part, (ast.Set, ast.SetComp)):
                continue
            called = isinstance(node, ast.Call) and isinstance(node.func, ast.Name) and node.func.id in ("sorted", "len")
            if not called and not isinstance(node, SET_USERS):
                yield part.lineno, "L24: a set that is not used on the spot"


def own_methods(tree):
    """The methods of the classes of a file."""
    holders = [part for part in ast.walk(tree) if isinstance(part, ast.ClassDef)]
    return [part for holder in holders for part in holder.body if isinstance(part, ast.FunctionDef)]


def is_property(method):
    return any(isinstance(mark, ast.Name) and mark.id == "property" for mark in method.decorator_list)


def called(node):
    """The functions of all calls in it."""
    return [part.func for part in ast.walk(node) if isinstance(part, ast.Call)]


def reading_functions(trees):
    """What properties and operators run: themselves and the own functions that they call, each with its file."""
    functions = [
        (path, part) for path, tree in trees.items() for part in tree.body if isinstance(part, ast.FunctionDef)
    ]
    found = [
        (path, part) for path, tree in trees.items() for part in own_methods(tree)
        if part.name in DUNDERS - {"__init__"} or is_property(part)
    ]
    # The list grows while the loop goes over it.
    for _, reader in found:
        names = {part.id for part in called(reader) if isinstance(part, ast.Name)}
        found.extend(pair for pair in functions if pair[1].name in names and pair not in found)
    return found


def check_readers(trees):
    """What is called is taken by its name, whatever it is called on; so an own method's name tells that it is one."""
    methods = {part.name for tree in trees.values() for part in own_methods(tree) if not is_property(part)}
    defined = {name for tree in trees.values() for name in defined_names(tree)} | set().union(*LIBRARY.values())
    for path, reader in reading_functions(trees):
        for part in called(reader):
            if isinstance(part, ast.Attribute) and part.attr in methods:
                yield path, part.lineno, f"L5: {reader.name}, run by a property or an operator, calls {part.attr}"
            if isinstance(part, ast.Name) and part.id not in defined | BUILTINS:
                yield path, part.lineno, f"L5: {reader.name}, run by a property or an operator, calls what it holds"
        for part in ast.walk(reader):
            if isinstance(part, ast.Attribute) and not isinstance(part.ctx, ast.Load):
                yield path, part.lineno, f"L5: {reader.name}, run by a property or an operator, changes {part.attr}"


def check_file(path, tree, package, defined, methods, errors):
    text = path.read_text(encoding="utf-8")
    yield from check_lines(path, text)
    yield from check_module(tree, package, defined)
    yield from check_sets(tree)
    docs = docstrings(tree)
    for node in ast.walk(tree):
        for wrong in list(check_names(tree, node)) + list(check_node(node, methods, errors, docs)):
            # Signs such as / have no line of their own.
            yield getattr(node, "lineno", 0), wrong


def main():
    package = Path(sys.argv[1])
    wrong = 0
    files = sorted(path for path in package.iterdir() if path.name != "__pycache__")
    for path in files:
        if not re.fullmatch("[a-z][a-z0-9_]*[.]py|__init__[.]py", path.name):
            print(f"{path}: L1, L14: not a plain file")
            return 1
    trees = {path: ast.parse(path.read_text(encoding="utf-8")) for path in files}
    defined = {f"{package.name}.{path.stem}": defined_names(tree) for path, tree in trees.items()}
    classes = [part for tree in trees.values() for part in ast.walk(tree) if isinstance(part, ast.ClassDef)]
    methods = {part.name for holder in classes for part in holder.body if isinstance(part, ast.FunctionDef)}
    errors = set(defined.get(f"{package.name}.errors", ()))
    for path, tree in trees.items():
        for line, told in check_file(path, tree, package.name, defined, methods, errors):
            print(f"{path}:{line}: {told}")
            wrong += 1
    for path, line, told in check_readers(trees):
        print(f"{path}:{line}: {told}")
        wrong += 1
    print(f"language: {len(files)} files, {wrong} lines against the rules")
    return 1 if wrong else 0


if __name__ == "__main__":
    sys.exit(main())
