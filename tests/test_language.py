"""The rules of LANGUAGE.md that a look at the files can tell, each by its number.

It is not all that the rules say: it finds what is easily overlooked.
"""

import ast
import builtins
import os
import re
import unittest

import unwrittenrow

FOLDER = os.path.dirname(unwrittenrow.__file__)

LIBRARY = {
    "math": "gcd lcm isqrt comb perm factorial", "heapq": "heappush heappop heapify heapreplace heappushpop",
    "itertools": "product combinations permutations chain accumulate pairwise islice zip_longest",
    "collections": "defaultdict",
}
# L8, without those that LANGUAGE.md narrows away.
BUILTINS = set("""len range enumerate zip min max sum abs sorted reversed int str bool list tuple dict set frozenset
    isinstance ord repr any all divmod pow getattr hasattr setattr map iter next super
    Exception ValueError TypeError KeyError IndexError LookupError ZeroDivisionError ArithmeticError OverflowError
    RuntimeError NotImplementedError AttributeError StopIteration NotImplemented""".split())
# L25.
METHODS = set("""append clear copy count endswith extend find get index insert isalnum isalpha isdigit islower isspace
    isupper items join keys ljust lower lstrip partition pop remove replace reverse rfind rjust rpartition rsplit
    rstrip setdefault split splitlines startswith strip update upper values zfill bit_length title capitalize
    swapcase casefold center expandtabs removeprefix removesuffix rindex isascii isdecimal isnumeric istitle
    isidentifier isprintable add discard""".split())
DOUBLE = re.compile(r"__(init|eq|repr|str|len)__")
# L17.
NEVER = set("register mro elements open input law version_info with_traceback add_note".split())
NO_VARIABLES = set("""attrgetter breakpoint builtins compile copyright credits delattr dir eval exec exit gc globals
    help id importlib license locals methodcaller os quit super sys type vars""".split())
NO_WORDS = re.compile(r"""\b(type|typing|typing_extensions|enum|Enum|IntEnum|StrEnum|Flag|IntFlag|Generic|Protocol|ABC
    |ABCMeta|namedtuple|NamedTuple|TypedDict|TYPE_CHECKING|abstractmethod)\b|dataclass|overload|contextmanager""", re.X)
# L26.
NO_ATTRIBUTES = set("""items keys values pop update append clear extend insert remove reverse setdefault sort args
    encode decode hex fromhex format""".split())


def is_small(node):
    """Whether an exponent is a literal from 0 to 64."""
    return isinstance(node, ast.Constant) and node.value in range(65)


def names_bound(tree):
    """Return the names that are given a meaning: variables, parameters, functions, classes."""
    for node in ast.walk(tree):
        if isinstance(node, ast.Name) and isinstance(node.ctx, ast.Store):
            yield node.lineno, node.id
        elif isinstance(node, ast.arg):
            yield node.lineno, node.arg
        elif isinstance(node, (ast.FunctionDef, ast.ClassDef)):
            yield node.lineno, node.name
        elif isinstance(node, ast.ExceptHandler) and node.name is not None:
            yield node.lineno, node.name


def names_at_top(tree):
    found = []
    for node in tree.body:
        if isinstance(node, (ast.FunctionDef, ast.ClassDef)):
            found.append(node.name)
        elif isinstance(node, ast.Assign):
            found.extend([target.id for target in node.targets])
        elif isinstance(node, ast.ImportFrom):
            found.extend([alias.name for alias in node.names])
    return found


class File:
    def __init__(self, path):
        self.path = path
        with open(path, encoding="utf-8", newline="") as file:
            self.text = file.read()
        self.tree = ast.parse(self.text)
        self.faults = []

    def fault(self, rule, line):
        self.faults.append(f"{os.path.basename(self.path)}:{line}: {rule}")


def look_at_text(file):
    lines = file.text.split("\n")
    if len(lines) - 1 > 399:
        file.fault("L10", 400)
    for at, line in enumerate(lines, 1):
        if len(line) > 120 or "\t" in line:
            file.fault("L10", at)
        if not re.fullmatch(r"[ -~]*", line):
            file.fault("L14", at)


def look_at_top(file, files):
    bound = names_at_top(file.tree)
    for name in {name for name in bound if bound.count(name) > 1}:
        file.fault(f"L15 {name}", 1)
    for at, node in enumerate(file.tree.body):
        if isinstance(node, ast.Expr):
            if at > 0 or not isinstance(node.value, ast.Constant):
                file.fault("L3", node.lineno)
        elif isinstance(node, ast.Assign):
            if len(node.targets) > 1 or not isinstance(node.targets[0], ast.Name):
                file.fault("L3", node.lineno)
        elif isinstance(node, ast.ImportFrom):
            look_at_import(file, node, files)
        elif not isinstance(node, (ast.FunctionDef, ast.ClassDef)):
            file.fault("L3", node.lineno)


def look_at_import(file, node, files):
    known = LIBRARY.get(node.module, "").split()
    if node.module.startswith("unwrittenrow."):
        home = files[node.module.split(".")[1]]
        known = [name for name in names_at_top(home.tree)]
        for other in home.tree.body:
            if isinstance(other, ast.ImportFrom):
                known = [name for name in known if name not in [alias.name for alias in other.names]]
    for alias in node.names:
        if node.level or alias.asname or alias.name not in known:
            file.fault(f"L2 L16 {alias.name}", node.lineno)
    imported = [alias.name for alias in node.names]
    for line, name in names_bound(file.tree):
        if name in imported:
            file.fault(f"L15 {name}", line)


def look_at_names(file):
    for line, name in names_bound(file.tree):
        if not re.fullmatch(r"_|_?[A-Za-z][A-Za-z0-9_]*", name) and not DOUBLE.fullmatch(name):
            file.fault(f"L12 {name}", line)
        if name in NEVER | NO_VARIABLES:
            file.fault(f"L17 {name}", line)
    methods = [node.name for tree in ast.walk(file.tree) if isinstance(tree, ast.ClassDef) for node in tree.body
               if isinstance(node, ast.FunctionDef)]
    for line, name in names_bound(file.tree):
        # An interactive session, as that of doctest, gives builtins a name of its own, "_".
        if name != "_" and hasattr(builtins, name) and name not in methods:
            file.fault(f"L15 {name}", line)


def is_plain_try(node, errors):
    """Whether a try has one handler, of one own error."""
    if len(node.handlers) != 1 or node.orelse or node.finalbody:
        return False
    return isinstance(node.handlers[0].type, ast.Name) and node.handlers[0].type.id in errors


def look_at_nodes(file, own, errors):
    top = set(names_at_top(file.tree)) | {name for _, name in names_bound(file.tree)}
    for node in ast.walk(file.tree):
        line = getattr(node, "lineno", 0)
        if isinstance(node, ast.FunctionDef) and (node.end_lineno - node.lineno >= 40 or node.decorator_list):
            file.fault("L10 L4", line)
        if isinstance(node, (ast.Global, ast.Import, ast.With, ast.Match, ast.Yield, ast.AsyncFunctionDef)):
            file.fault("L6, or what the program does without", line)
        if isinstance(node, ast.Try) and not is_plain_try(node, errors):
            file.fault("L19, or what the program does without", line)
        if isinstance(node, ast.GeneratorExp):
            file.fault("L7 (classes have ==)", line)
        if isinstance(node, ast.BinOp) and isinstance(node.op, ast.Div):
            file.fault("L7", line)
        if isinstance(node, ast.BinOp) and isinstance(node.op, ast.Pow) and not is_small(node.right):
            file.fault("L27", line)
        if isinstance(node, ast.Compare) and any(isinstance(op, (ast.Is, ast.IsNot)) for op in node.ops):
            if not isinstance(node.comparators[0], ast.Constant):
                file.fault("L20", line)
        if isinstance(node, ast.Name) and isinstance(node.ctx, ast.Load) and node.id not in top:
            if node.id not in BUILTINS:
                file.fault(f"L8 {node.id}", line)
        if isinstance(node, ast.Attribute) and isinstance(node.ctx, ast.Store) and node.attr in NO_ATTRIBUTES:
            file.fault(f"L26 {node.attr}", line)
        if isinstance(node, ast.Call) and isinstance(node.func, ast.Attribute):
            if node.func.attr not in METHODS | own:
                file.fault(f"L25 {node.func.attr}", line)
        if isinstance(node, (ast.For, ast.comprehension)) and isinstance(node.iter, (ast.Set, ast.SetComp)):
            file.fault("L24", getattr(node.iter, "lineno", 0))


def look_at_strings(file):
    docs = [
        node.body[0].value for node in ast.walk(file.tree)
        if isinstance(node, (ast.Module, ast.FunctionDef, ast.ClassDef)) and ast.get_docstring(node) is not None
    ]
    for node in ast.walk(file.tree):
        if isinstance(node, ast.Constant) and isinstance(node.value, float):
            file.fault("L7", node.lineno)
        if isinstance(node, ast.Constant) and isinstance(node.value, str):
            if "%" in node.value:
                file.fault("L27", node.lineno)
            if node not in docs and NO_WORDS.search(node.value):
                file.fault("L17", node.lineno)


def faults_in(folder):
    files = {name[:-3]: File(os.path.join(folder, name)) for name in sorted(os.listdir(folder)) if name.endswith(".py")}
    own = {
        node.name for file in files.values() for part in ast.walk(file.tree) if isinstance(part, ast.ClassDef)
        for node in part.body if isinstance(node, ast.FunctionDef)
    }
    for file in files.values():
        look_at_text(file)
        look_at_top(file, files)
        look_at_names(file)
        look_at_nodes(file, own, names_at_top(files["errors"].tree))
        look_at_strings(file)
    return [fault for file in files.values() for fault in file.faults]


def names_of_class(node):
    """Return the names of the methods of a class, and those of the attributes that they assign to their object."""
    methods = {part.name for part in node.body if isinstance(part, ast.FunctionDef)}
    attributes = {
        part.attr for part in ast.walk(node) if isinstance(part, ast.Attribute) and isinstance(part.ctx, ast.Store)
    }
    return methods, attributes


class TheLanguage(unittest.TestCase):
    def test_the_folder_holds_files_of_python_alone(self):
        for name in os.listdir(FOLDER):
            self.assertTrue(re.fullmatch(r"[a-z_][a-z0-9_]*\.py", name) or name == "__pycache__", name)

    def test_no_name_is_a_method_and_an_attribute(self):
        # L18 forbids it in one class alone.
        methods, attributes = set(), set()
        for name in sorted(os.listdir(FOLDER)):
            if name.endswith(".py"):
                for node in ast.walk(File(os.path.join(FOLDER, name)).tree):
                    if isinstance(node, ast.ClassDef):
                        mine, its = names_of_class(node)
                        methods, attributes = methods | mine, attributes | its
        self.assertEqual(methods & attributes, set())

    def test_the_rules(self):
        self.assertEqual(faults_in(FOLDER), [])


if __name__ == "__main__":
    unittest.main()
