"""What can be seen of the language rules L1 to L28 in one file of the package.

This is a net with wide meshes: it finds plain slips, and proves nothing.
"""

import ast
import builtins
import io
import re
import tokenize
import warnings

ALLOWED_BUILTINS = set(
    "len range enumerate zip min max sum abs sorted reversed int str bool bytes list tuple dict set frozenset "
    "isinstance ord repr any all divmod pow getattr hasattr setattr iter next map type super property staticmethod "
    "classmethod Exception ValueError TypeError KeyError IndexError LookupError ZeroDivisionError ArithmeticError "
    "OverflowError RuntimeError NotImplementedError AttributeError StopIteration NotImplemented".split()
)
ALLOWED_METHODS = set(
    "append clear copy count endswith extend find get index insert isalnum isalpha isdigit islower isspace isupper "
    "items join keys ljust lower lstrip partition pop remove replace reverse rfind rjust rpartition rsplit rstrip "
    "setdefault split splitlines startswith strip update upper values zfill bit_length title capitalize swapcase "
    "casefold center expandtabs removeprefix removesuffix rindex isascii isdecimal isnumeric istitle isidentifier "
    "isprintable translate add discard appendleft popleft extendleft rotate encode decode hex to_bytes "
    "from_bytes fromhex __init__".split()
)
ALLOWED_LIBRARY = {
    "heapq": {"heappush", "heappop", "heapify", "heapreplace", "heappushpop"},
    "math": {"gcd", "lcm", "isqrt", "comb", "perm", "factorial"},
    "itertools": {"product", "combinations", "permutations", "chain", "accumulate", "pairwise", "islice",
                  "zip_longest"},
    "collections": {"defaultdict", "deque"},
    "__future__": {"annotations"},
}
DOUBLE = set(
    "init eq repr str len enter exit call iter lt le gt ge ne add sub mul floordiv mod pow and or xor lshift rshift "
    "radd rsub rmul rfloordiv rmod rand ror rxor rlshift rrshift iadd isub imul ifloordiv imod ipow iand ior ixor "
    "ilshift irshift neg pos invert abs bool contains getitem setitem".split()
)
BARRED_NODES = (
    ast.AsyncFunctionDef, ast.AsyncFor, ast.AsyncWith, ast.Await, ast.Div, ast.MatMult, ast.MatchClass,
    ast.MatchMapping, ast.Global,
)
BARRED_NAMES = set("register mro elements open input law version_info with_traceback add_note".split())
BARRED_WORDS = set(
    "typing typing_extensions enum Enum IntEnum StrEnum Flag IntFlag Generic Protocol ABC ABCMeta namedtuple "
    "NamedTuple TypedDict TYPE_CHECKING abstractmethod".split()
)
BUILTIN_NAMES = set(dir(builtins))
PLAIN_NAME = re.compile(r"_?[A-Za-z][A-Za-z0-9_]*\Z|_\Z")


def complaints(name, source):
    """The complaints about one file: a list of texts, each beginning with its rule."""
    with warnings.catch_warnings():
        warnings.simplefilter("error")
        tree = ast.parse(source)
        compile(source, name, "exec")
    found = text_complaints(source) + top_complaints(tree) + word_complaints(source)
    for node in ast.walk(tree):
        for check in (bars, names, functions, classes, blocks_left, errors, calls, values):
            found += [(getattr(node, "lineno", 0), told) for told in check(node)]
    return [f"{name}:{line}: {told}" for line, told in sorted(found)]


def text_complaints(source):
    found = []
    lines = source.split("\n")
    if len(lines) - 1 > 399:
        found.append((400, "L10 more than 399 lines"))
    for number, line in enumerate(lines, 1):
        if len(line) > 120:
            found.append((number, "L10 more than 120 characters"))
        if [sign for sign in line if not " " <= sign <= "~"]:
            found.append((number, "L14 a character"))
        if "_wall" in line or "_WallAttr" in line:
            found.append((number, "L12 a barred word"))
    return found


def word_complaints(source):
    found = []
    for token in tokenize.generate_tokens(io.StringIO(source).readline):
        if token.type == tokenize.NAME and token.string in BARRED_WORDS:
            found.append((token.start[0], "L17 " + token.string))
        if token.type == tokenize.STRING and "%" in token.string and not token.line.strip().startswith('"""'):
            found.append((token.start[0], "L27 a percent sign"))
        if token.type == tokenize.STRING and re.search(r"\\[^nt\\\"']", token.string):
            found.append((token.start[0], "L27 an escape"))
    return found


def top_complaints(tree):
    found, bound, imports_end = [], [], False
    for place, node in enumerate(tree.body):
        if isinstance(node, ast.ImportFrom):
            bound += [alias.asname or alias.name for alias in node.names]
            if imports_end:
                found.append((node.lineno, "L2 an import that is not at the top"))
            continue
        docstring = place == 0 and isinstance(node, ast.Expr) and isinstance(node.value, ast.Constant)
        imports_end = imports_end or not docstring
        if isinstance(node, (ast.FunctionDef, ast.ClassDef)):
            bound.append(node.name)
        elif isinstance(node, ast.Assign) and isinstance(node.targets[0], ast.Name) and len(node.targets) == 1:
            bound.append(node.targets[0].id)
        elif not docstring:
            found.append((node.lineno, "L3 a statement at module level"))
    found += [(0, "L15 bound twice: " + name) for name in bound if bound.count(name) > 1]
    for node in ast.walk(tree):
        if isinstance(node, ast.Import):
            found.append((node.lineno, "L16 an import of a module"))
        if isinstance(node, ast.ImportFrom):
            known = ALLOWED_LIBRARY.get(node.module)
            inside = node.level == 0 and str(node.module).startswith("settlesfirst.")
            if not inside and (known is None or not {alias.name for alias in node.names} <= known):
                found.append((node.lineno, "L2 an import from outside"))
        if isinstance(node, (ast.FunctionDef, ast.Lambda)):
            found += [(node.lineno, "L15 named like what the file binds: " + name)
                      for name in assigned(node) if name in bound and name != getattr(node, "name", "")]
    return found


def assigned(node):
    """The parameters and the names that are assigned within a function."""
    arguments = node.args
    found = [each.arg for each in arguments.posonlyargs + arguments.args + arguments.kwonlyargs]
    found += [each.arg for each in (arguments.vararg, arguments.kwarg) if each is not None]
    for inner in ast.walk(node):
        if isinstance(inner, ast.Name) and not isinstance(inner.ctx, ast.Load):
            found.append(inner.id)
        if isinstance(inner, ast.FunctionDef) and inner is not node:
            found.append(inner.name)
    return found


def bars(node):
    found = []
    if isinstance(node, BARRED_NODES):
        found.append("L6 or L7 " + type(node).__name__)
    if isinstance(node, ast.Constant) and isinstance(node.value, (float, complex, type(...))):
        found.append("L7 a literal")
    if isinstance(node, ast.Name) and isinstance(node.ctx, ast.Load):
        if node.id in BUILTIN_NAMES and node.id not in ALLOWED_BUILTINS:
            found.append("L8 the builtin " + node.id)
    if isinstance(node, ast.Call) and isinstance(node.func, ast.Name) and node.func.id in ("any", "all"):
        if isinstance(node.args[0], ast.GeneratorExp):
            found.append("L7 a generator expression beside __eq__")
    return found


def names(node):
    told = []
    if isinstance(node, ast.Name):
        told = [node.id]
    elif isinstance(node, (ast.FunctionDef, ast.ClassDef)):
        told = [node.name]
    elif isinstance(node, ast.Attribute):
        told = [node.attr]
    elif isinstance(node, (ast.arg, ast.keyword)):
        told = [node.arg or "rest"]
    found = ["L17 the name " + name for name in told if name in BARRED_NAMES]
    own = isinstance(node, (ast.FunctionDef, ast.Attribute))
    for name in told:
        double = own and name.startswith("__") and name.endswith("__")
        if double and name.strip("_") not in DOUBLE | {"class", "name"}:
            found.append("L5 the name " + name)
        if not double and not PLAIN_NAME.match(name):
            found.append("L12 the name " + name)
    stored = isinstance(node, ast.Name) and not isinstance(node.ctx, ast.Load)
    if stored or isinstance(node, (ast.arg, ast.FunctionDef, ast.ClassDef)):
        found += ["L15 a builtin's name " + name for name in told if name in BUILTIN_NAMES]
    return found


def functions(node):
    if not isinstance(node, ast.FunctionDef):
        return []
    found = []
    if node.end_lineno - node.lineno + 1 > 40:
        found.append("L10 more than 40 lines")
    for each in node.decorator_list:
        plain = isinstance(each, ast.Name) and each.id in ("property", "staticmethod", "classmethod")
        if not plain and not (isinstance(each, ast.Attribute) and each.attr == "setter"):
            found.append("L4 a decorator")
    if node.name in ("__len__", "__repr__", "__str__") and not isinstance(node.body[-1], ast.Return):
        found.append("L28 no return at the end of " + node.name)
    if node.name == "__init__":
        returns = [each for each in ast.walk(node) if isinstance(each, ast.Return) and each.value is not None]
        found += ["L28 a return in __init__" for _ in returns]
    return found


def classes(node):
    if not isinstance(node, ast.ClassDef):
        return []
    found = ["L5 a decorator over a class" for _ in node.decorator_list] + ["L5 a keyword" for _ in node.keywords]
    methods = [each.name for each in node.body if isinstance(each, ast.FunctionDef)]
    attributes = [each.attr for each in ast.walk(node) if isinstance(each, ast.Attribute)
                  and isinstance(each.ctx, ast.Store) and isinstance(each.value, ast.Name) and each.value.id == "self"]
    properties = [each.name for each in node.body if isinstance(each, ast.FunctionDef) and each.decorator_list]
    found += ["L18 a method and an attribute " + name for name in attributes
              if name in methods and name not in properties]
    found += ["L18 defined twice: " + name for name in methods if methods.count(name) > 1 and name not in properties]
    return found


def blocks_left(node):
    """What stands in a method __exit__ must be plain: names and attributes that are assigned to each other."""
    if not isinstance(node, ast.FunctionDef) or node.name != "__exit__":
        return []
    plain = (ast.Name, ast.Attribute, ast.Constant)
    return ["L6 more than assignments in __exit__" for each in node.body
            if not isinstance(each, (ast.Pass, ast.Assign)) or (
                isinstance(each, ast.Assign) and not isinstance(each.value, plain))]


def errors(node):
    found = []
    if isinstance(node, ast.ExceptHandler):
        caught = node.type.elts if isinstance(node.type, ast.Tuple) else [node.type]
        barred = ("Exception", "TypeError", "ArithmeticError", "OverflowError", "RuntimeError", "NotImplementedError",
                  "AttributeError", "BaseException")
        found += ["L19 a handler" for each in caught if not isinstance(each, ast.Name) or each.id in barred]
    if isinstance(node, ast.Raise) and node.exc is not None:
        if not isinstance(node.exc, ast.Call) or not isinstance(node.exc.func, ast.Name):
            found.append("L19 a raise that does not create its error")
    if isinstance(node, ast.Compare):
        for sign, right in zip(node.ops, node.comparators):
            plain = isinstance(right, ast.Constant) and right.value in (None, True, False)
            if isinstance(sign, (ast.Is, ast.IsNot)) and not plain:
                found.append("L20 an is")
    return found


def calls(node):
    if not isinstance(node, ast.Call):
        return []
    found = []
    if isinstance(node.func, ast.Attribute) and isinstance(node.func.value, ast.Constant):
        if node.func.attr not in ("join", "format", "index", "find"):
            found.append("L25 a method of a literal")
    if isinstance(node.func, ast.Attribute) and node.func.attr == "sort":
        found.append("L25 sort beside __eq__")
    if isinstance(node.func, ast.Name) and node.func.id in ("isinstance", "len", "repr") and node.keywords:
        found.append("L22 a keyword of a builtin")
    return found


def values(node):
    found = []
    if isinstance(node, ast.Set) and len([each for each in node.elts if isinstance(each, ast.Constant)]) > 2:
        found.append("L13 a set literal")
    if isinstance(node, (ast.For, ast.comprehension)):
        over = node.iter
        if isinstance(over, (ast.Set, ast.SetComp)):
            found.append("L11 a loop over a set")
        if isinstance(over, ast.Call) and isinstance(over.func, ast.Name) and over.func.id == "set":
            found.append("L11 a loop over a set")
    if isinstance(node, ast.BinOp) and isinstance(node.op, ast.Mod):
        if not isinstance(node.left, ast.Call) or getattr(node.left.func, "id", "") not in ("len", "int", "sum", "abs"):
            found.append("L7 a remainder of what may be no number")
    if isinstance(node, ast.AugAssign) and not isinstance(node.value, ast.Constant):
        found.append("L5 an in-place sign with more than a literal, beside __iadd__ and __isub__")
    if isinstance(node, ast.BinOp) and isinstance(node.op, ast.Pow) and not isinstance(node.right, ast.Constant):
        found.append("L27 an exponent that is no literal")
    return found


def assigned_attributes(source):
    """The pairs of a line and the name of an attribute that is assigned there."""
    return [(node.lineno, node.attr) for node in ast.walk(ast.parse(source))
            if isinstance(node, ast.Attribute) and not isinstance(node.ctx, ast.Load)]


def properties(source):
    """The names of the properties that the classes of a file define."""
    return [node.name for node in ast.walk(ast.parse(source)) if isinstance(node, ast.FunctionDef)
            and any(getattr(each, "id", "") == "property" for each in node.decorator_list)]


def called_methods(source):
    """The pairs of a line and the name of a method that is called there."""
    return [(node.lineno, node.func.attr) for node in ast.walk(ast.parse(source))
            if isinstance(node, ast.Call) and isinstance(node.func, ast.Attribute)]


def own_methods(source):
    """The names of the methods that the classes of a file define."""
    return [inner.name for node in ast.walk(ast.parse(source)) if isinstance(node, ast.ClassDef)
            for inner in node.body if isinstance(inner, ast.FunctionDef)]


def imports_of(source):
    """The pairs of a file of the package and a name that is imported from it."""
    return [(node.module, alias.name) for node in ast.walk(ast.parse(source)) if isinstance(node, ast.ImportFrom)
            and str(node.module).startswith("settlesfirst.") for alias in node.names]


def defined_names(source):
    """The names that the statements of a file itself define."""
    found = []
    for node in ast.parse(source).body:
        if isinstance(node, (ast.FunctionDef, ast.ClassDef)):
            found.append(node.name)
        if isinstance(node, ast.Assign):
            found.append(node.targets[0].id)
    return found


def function_names(source):
    """The names of all functions and methods of a file."""
    return [node.name for node in ast.walk(ast.parse(source)) if isinstance(node, ast.FunctionDef)]


def generators(source):
    """The names of the functions and methods of a file that yield."""
    return [node.name for node in ast.walk(ast.parse(source)) if isinstance(node, ast.FunctionDef)
            and any(isinstance(inner, (ast.Yield, ast.YieldFrom)) for inner in ast.walk(node))]


def loose_generators(source, told):
    """The lines in which a generator of these names is not iterated at once, or is passed more than names."""
    tree = ast.parse(source)
    at_once = []
    for node in ast.walk(tree):
        if isinstance(node, (ast.For, ast.comprehension)):
            at_once.append(node.iter)
        elif isinstance(node, ast.YieldFrom):
            at_once.append(node.value)
        elif isinstance(node, ast.Call) and getattr(node.func, "id", "") in ("list", "sum", "sorted"):
            at_once.extend(node.args[:1])
    found = []
    for node in ast.walk(tree):
        if isinstance(node, ast.Call):
            name = getattr(node.func, "attr", getattr(node.func, "id", ""))
            plain = all(isinstance(each, (ast.Name, ast.Attribute, ast.Constant)) for each in node.args)
            if name in told and (node not in at_once or not plain):
                found.append(node.lineno)
    return found
