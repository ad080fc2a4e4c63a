"""Looks through the files of the package for what ../shared/LANGUAGE.md does not let stand.

Not every rule can be seen from a file; those that can be seen most plainly are looked for here.
"""

import ast
import builtins
import re
from pathlib import Path

PACKAGE = "tideweir"
ROOT = Path(__file__).resolve().parent.parent / PACKAGE

LIBRARY = {
    "heapq": {"heappush", "heappop", "heapify", "heapreplace", "heappushpop"},
    "math": {"gcd", "lcm", "isqrt", "comb", "perm", "factorial"},
    "itertools": {"product", "combinations", "permutations", "chain", "accumulate", "pairwise", "islice", "zip_longest"},
    "collections": {"defaultdict", "deque"},
}
LET_BY = set("""len range enumerate zip min max sum abs sorted reversed int str bool list tuple dict set frozenset
    isinstance ord repr any all divmod pow getattr hasattr setattr iter next map type super property staticmethod
    classmethod Exception ValueError TypeError KeyError IndexError LookupError ZeroDivisionError ArithmeticError
    OverflowError RuntimeError NotImplementedError AttributeError StopIteration NotImplemented object""".split())
METHODS = set("""append clear copy count endswith extend find get index insert isalnum isalpha isdigit islower isspace
    isupper items join keys ljust lower lstrip partition pop remove replace reverse rfind rjust rpartition rsplit
    rstrip setdefault split splitlines startswith strip update upper values zfill bit_length title capitalize swapcase
    casefold center expandtabs removeprefix removesuffix rindex isascii isdecimal isnumeric istitle isidentifier
    isprintable translate sort add discard format appendleft popleft extendleft rotate from_iterable""".split())
DOUBLE = set("""init eq repr str len enter exit call iter lt le gt ge ne add sub mul floordiv mod pow and or xor lshift
    rshift radd rsub rmul rfloordiv rmod rand ror rxor rlshift rrshift iadd isub imul ifloordiv imod ipow iand ior ixor
    ilshift irshift neg pos invert abs bool contains getitem setitem""".split())
NEVER = set("mro elements open input law version_info with_traceback add_note".split())
NOT_NAMES = set("""attrgetter breakpoint builtins compile delattr dir eval exec exit gc globals help importlib locals
    methodcaller os vars sys _wall _WallAttr""".split())
WORDS = set("""type typing typing_extensions enum Enum IntEnum StrEnum Flag IntFlag Generic Protocol ABC ABCMeta
    namedtuple NamedTuple TypedDict TYPE_CHECKING abstractmethod""".split())
MAY_BE_LOCAL = set("object id format credits license copyright quit callable complex ascii oct memoryview".split())
STATEMENTS = (ast.Assign, ast.AugAssign, ast.AnnAssign, ast.If, ast.While, ast.For, ast.Return, ast.Break, ast.Continue,
              ast.Pass, ast.Raise, ast.Assert, ast.Delete, ast.Nonlocal, ast.Match, ast.With, ast.Expr, ast.Try,
              ast.FunctionDef, ast.ClassDef, ast.ImportFrom)
PLAIN = (ast.Constant, ast.List, ast.Tuple, ast.Dict, ast.Name, ast.BinOp, ast.UnaryOp, ast.operator, ast.unaryop,
         ast.expr_context)


def files():
    """The files of the package, with their texts."""
    return [(path, path.read_text(encoding="utf-8")) for path in sorted(ROOT.rglob("*.py"))]


def module_of(path):
    """The full name of the module in a file."""
    parts = path.relative_to(ROOT.parent).with_suffix("").parts
    return ".".join(parts[:-1] if parts[-1] == "__init__" else parts)


def faults_of_folders():
    """L1 and L14: what stands in the folders of the package."""
    for path in sorted(ROOT.rglob("*")):
        if "__pycache__" in path.parts:
            continue
        if path.is_dir():
            if not (path / "__init__.py").exists():
                yield f"{path}: L14: no __init__.py"
            if path.with_suffix(".py").exists():
                yield f"{path}: L14: a file has the name of the folder"
        elif not re.fullmatch(r"([a-z][a-z0-9_]*|__init__|__main__)\.py", path.name):
            yield f"{path}: L1: not a plain .py file"
        if path.stem in dir(builtins) or re.match(r"law_|test", path.stem):
            yield f"{path}: L14: a name that is not let by"


def faults_of_text(path, text):
    """L10, L14 and L27: sizes and characters."""
    lines = text.split("\n")
    if len(lines) > 400:
        yield f"{path}: L10: {len(lines)} lines"
    for number, line in enumerate(lines, 1):
        if len(line) > 120:
            yield f"{path}:{number}: L10: a long line"
        if not all(" " <= sign <= "~" for sign in line):
            yield f"{path}:{number}: L14: a character beyond ASCII, or a tab"
        if re.search(r"dataclass|overload|contextmanager|_wall|_WallAttr", line):
            yield f"{path}:{number}: L12 or L17: a word that may not stand"


def docstrings_of(tree):
    """The constants of a tree that are docstrings."""
    found = []
    for node in ast.walk(tree):
        if isinstance(node, (ast.Module, ast.ClassDef, ast.FunctionDef)) and node.body:
            first = node.body[0]
            if isinstance(first, ast.Expr) and isinstance(first.value, ast.Constant):
                found.append(first.value)
    return found


def faults_of_module_level(path, tree):
    """L2, L3 and L15: what stands at module level, and that each name is bound once."""
    bound = []
    imports_end = False
    for k, node in enumerate(tree.body):
        where = f"{path}:{node.lineno}"
        if isinstance(node, ast.ImportFrom):
            if imports_end:
                yield f"{where}: L2: an import that does not stand at the top"
            bound.extend(alias.asname or alias.name for alias in node.names)
        elif k == 0 and isinstance(node, ast.Expr) and isinstance(node.value, ast.Constant):
            continue
        elif isinstance(node, (ast.FunctionDef, ast.ClassDef)):
            imports_end = True
            bound.append(node.name)
        elif isinstance(node, ast.Assign) and len(node.targets) == 1 and isinstance(node.targets[0], ast.Name):
            imports_end = True
            bound.append(node.targets[0].id)
            if not all(isinstance(part, PLAIN) for part in ast.walk(node.value)):
                yield f"{where}: L3: no plain value"
        else:
            yield f"{where}: L3: this may not stand at module level"
    for name in sorted(set(bound)):
        if bound.count(name) > 1:
            yield f"{path}: L15: {name} is bound twice"


def faults_of_imports(path, tree, trees):
    """L2 and L16: what is imported, and from the file that defines it."""
    for node in tree.body:
        if not isinstance(node, ast.ImportFrom):
            continue
        where = f"{path}:{node.lineno}"
        names = {alias.name for alias in node.names}
        if any(alias.asname for alias in node.names) or node.level:
            yield f"{where}: L2: an import with as, or with a leading dot"
        if node.module in LIBRARY:
            if not names <= LIBRARY[node.module]:
                yield f"{where}: L2: {sorted(names - LIBRARY[node.module])} may not be imported"
        elif node.module not in trees:
            yield f"{where}: L2: {node.module} is no module of the package"
        else:
            for name in sorted(names - names_defined_in(trees[node.module])):
                yield f"{where}: L16: {name} is not defined there"


def names_defined_in(tree):
    """The names that a file defines itself at module level."""
    defined = {node.name for node in tree.body if isinstance(node, (ast.FunctionDef, ast.ClassDef))}
    for node in tree.body:
        if isinstance(node, ast.Assign):
            defined.update(target.id for target in node.targets if isinstance(target, ast.Name))
    return defined


def faults_of_circles(trees):
    """L16: files that import from each other."""
    reached = {module: {node.module for node in tree.body if isinstance(node, ast.ImportFrom)} & set(trees)
               for module, tree in trees.items()}
    for _ in trees:
        for module in reached:
            reached[module] = reached[module].union(*[reached[other] for other in reached[module]])
    for module in sorted(trees):
        if module in reached[module]:
            yield f"{module}: L16: it imports itself, through other files"


def faults_of_node(path, node, documented, own):
    """The rules that one statement or expression can break."""
    where = f"{path}:{getattr(node, 'lineno', 0)}"
    if isinstance(node, ast.stmt) and not isinstance(node, STATEMENTS):
        yield f"{where}: L6: {type(node).__name__}"
    if isinstance(node, (ast.FunctionDef, ast.ClassDef)):
        yield from faults_of_definition(where, node)
    if isinstance(node, ast.Constant) and node not in documented:
        yield from faults_of_constant(where, node)
    if isinstance(node, ast.Div):
        yield f"{path}: L7: a quotient by /"
    if isinstance(node, ast.BinOp) and isinstance(node.op, ast.Pow):
        if not (isinstance(node.right, ast.Constant) and 0 <= node.right.value <= 64):
            yield f"{where}: L27: an exponent that is not written out"
    if isinstance(node, ast.Compare):
        for sign, other in zip(node.ops, node.comparators):
            if isinstance(sign, (ast.Is, ast.IsNot)) and ast.unparse(other) not in ("None", "True", "False"):
                yield f"{where}: L20: is"
    if isinstance(node, ast.Attribute):
        if isinstance(node.ctx, ast.Store) and not isinstance(node.value, ast.Name):
            yield f"{where}: L18: an attribute that is not assigned through a local name"
        if node.attr in NEVER or node.attr in ("format_map", "args", "encode", "decode", "hex"):
            yield f"{where}: L17 or L26: .{node.attr}"
        if node.attr not in METHODS | own and not node.attr.startswith("__"):
            yield f"{where}: L25: .{node.attr}"
    if isinstance(node, (ast.For, ast.comprehension)) and isinstance(node.iter, (ast.Set, ast.SetComp)):
        yield f"{path}: L24: a set is iterated"
    if isinstance(node, ast.ExceptHandler) and node.type is None:
        yield f"{where}: L6: except without a class"


def faults_of_definition(where, node):
    """L4, L5 and L10: decorators, lengths and names of functions and classes."""
    if node.end_lineno - node.lineno + 1 > 40 and isinstance(node, ast.FunctionDef):
        yield f"{where}: L10: a long function"
    for decorator in node.decorator_list:
        text = ast.unparse(decorator)
        if text not in ("property", "staticmethod", "classmethod") and not text.endswith(".setter"):
            yield f"{where}: L4: @{text}"
    if node.name.startswith("__") and node.name.strip("_") not in DOUBLE:
        yield f"{where}: L5: {node.name}"
    if isinstance(node, ast.FunctionDef):
        defaults = [value for value in node.args.defaults + node.args.kw_defaults if value is not None]
        for value in defaults:
            if any(isinstance(part, (ast.List, ast.Dict, ast.Set, ast.Call)) for part in ast.walk(value)):
                yield f"{where}: L4: a default that is not plain"


def faults_of_constant(where, node):
    """L7, L17 and L27: numbers and strings that are written out."""
    if isinstance(node.value, (float, complex, bytes)) or node.value is Ellipsis:
        yield f"{where}: L7: {node.value!r}"
    if isinstance(node.value, str):
        if chr(37) in node.value:
            yield f"{where}: L27: a percent sign in a string"
        if "__" in node.value or node.value.endswith("._"):
            yield f"{where}: L27: underscores in a string"
        if "\n" in node.value and WORDS & set(re.findall(r"\w+", node.value)):
            yield f"{where}: L17: a word in a string"


def faults_of_names(path, tree):
    """L8, L12, L15 and L17: the names that are bound and read."""
    imported = {alias.name for node in tree.body if isinstance(node, ast.ImportFrom) for alias in node.names}
    classes = {node.name for node in tree.body if isinstance(node, ast.ClassDef)}
    for node in ast.walk(tree):
        where = f"{path}:{getattr(node, 'lineno', 0)}"
        bound = bound_by(node)
        for name in bound:
            if not re.fullmatch(r"_?[A-Za-z][A-Za-z0-9_]*|_|__[a-z]+__", name):
                yield f"{where}: L12: {name}"
            if name in NEVER | NOT_NAMES | WORDS:
                yield f"{where}: L17: {name}"
            if name in dir(builtins) and name not in MAY_BE_LOCAL:
                yield f"{where}: L15: {name} is a builtin"
            if name in imported | classes and not isinstance(node, ast.ClassDef):
                yield f"{where}: L15: {name} is imported, or a class"
        if isinstance(node, ast.Name) and isinstance(node.ctx, ast.Load):
            if node.id in dir(builtins) and node.id not in LET_BY | MAY_BE_LOCAL:
                yield f"{where}: L8: {node.id}"
            if node.id == "_":
                yield f"{where}: L12: _ is read"


def bound_by(node):
    """The names that a node binds: targets, parameters, functions and caught errors."""
    if isinstance(node, ast.Name) and isinstance(node.ctx, ast.Store):
        return [node.id]
    if isinstance(node, ast.arg):
        return [node.arg]
    if isinstance(node, (ast.FunctionDef, ast.ClassDef)):
        return [node.name]
    if isinstance(node, ast.ExceptHandler) and node.name:
        return [node.name]
    return []


def attributes_of(trees):
    """The methods and attributes that the package itself defines."""
    found = set()
    for tree in trees.values():
        for node in ast.walk(tree):
            if isinstance(node, ast.ClassDef):
                found.update(inner.name for inner in node.body if isinstance(inner, ast.FunctionDef))
            if isinstance(node, ast.Attribute) and isinstance(node.ctx, ast.Store):
                found.add(node.attr)
    return found


def faults():
    """All faults that are found, a line each."""
    found = list(faults_of_folders())
    texts = files()
    trees = {module_of(path): ast.parse(text) for path, text in texts}
    own = attributes_of(trees)
    for path, text in texts:
        tree = trees[module_of(path)]
        documented = docstrings_of(tree)
        found.extend(faults_of_text(path, text))
        found.extend(faults_of_module_level(path, tree))
        found.extend(faults_of_imports(path, tree, trees))
        found.extend(faults_of_names(path, tree))
        for node in ast.walk(tree):
            found.extend(faults_of_node(path, node, documented, own))
    found.extend(faults_of_circles(trees))
    return found
