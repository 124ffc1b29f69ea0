"""Checks those rules of ../shared/LANGUAGE.md that are easy to check: L2, L3, L10,
L12, L14 to L18, L20, L25 and L27. It says nothing of the other rules."""

import ast
import builtins
import pathlib
import re
import sys

PACKAGE = "pastlooks"
BARRED_WORDS = re.compile(
    r"\b(type|typing|typing_extensions|enum|Enum|IntEnum|StrEnum|Flag|IntFlag|Generic|Protocol|ABC|ABCMeta"
    r"|namedtuple|NamedTuple|TypedDict|TYPE_CHECKING|abstractmethod)\b|dataclass|overload|contextmanager")
BARRED_NAMES = set(
    "register mro elements open input law version_info with_traceback add_note attrgetter breakpoint builtins "
    "compile copyright credits delattr dir eval exec exit gc getattr globals hasattr help id importlib license "
    "locals methodcaller os quit setattr super type vars".split()) | set(dir(builtins))
BUILTINS = set(
    "len range enumerate zip min max sum abs sorted reversed int str bool bytes list tuple dict set isinstance "
    "ord repr any all divmod iter next Exception ValueError TypeError KeyError IndexError LookupError "
    "ZeroDivisionError ArithmeticError OverflowError RuntimeError NotImplementedError AttributeError "
    "StopIteration NotImplemented print property staticmethod classmethod super".split())
DOUBLE = set(
    "init eq repr str len enter exit call iter lt le gt ge ne add sub mul floordiv mod pow and or xor lshift "
    "rshift iadd isub imul ifloordiv imod ipow iand ior ixor ilshift irshift neg pos invert abs bool contains "
    "getitem setitem".split())
MODULE_LEVEL = (ast.ImportFrom, ast.FunctionDef, ast.ClassDef, ast.Assign, ast.Expr)


def text_faults(text):
    lines = text.split("\n")
    if len(lines) > 400:
        yield 1, "L10: more than 399 lines"
    for number, line in enumerate(lines, 1):
        if len(line) > 120:
            yield number, "L10: a line of more than 120 characters"
        if re.search(r"[^ -~]", line):
            yield number, "L14: a character that is not allowed"
        if BARRED_WORDS.search(line):
            yield number, "L17: a word that is not allowed"


def node_faults(node):
    if isinstance(node, ast.FunctionDef):
        if node.end_lineno - node.lineno >= 40:
            yield "L10: a function of more than 40 lines"
        if node.name.startswith("__") and node.name.strip("_") not in DOUBLE:
            yield "L5: a method " + node.name
        for name in [node.name] + [a.arg for a in ast.walk(node.args) if isinstance(a, ast.arg)]:
            if not name.startswith("__") and (name in BARRED_NAMES or name.startswith("_")):
                yield "L12, L15, L17: the name " + name
    if isinstance(node, ast.Name):
        if isinstance(node.ctx, ast.Store) and (node.id in BARRED_NAMES or node.id.startswith("_")):
            yield "L12, L15, L17: the name " + node.id
        if isinstance(node.ctx, ast.Load) and node.id in dir(builtins) and node.id not in BUILTINS:
            yield "L8: the builtin " + node.id
    if isinstance(node, ast.Attribute) and (node.attr == "sort" or node.attr.startswith("_")):
        if node.attr != "__init__":
            yield "L12, L25: ." + node.attr
    if isinstance(node, ast.Compare) and any(isinstance(sign, (ast.Is, ast.IsNot)) for sign in node.ops):
        if not all(isinstance(c, ast.Constant) for c in node.comparators):
            yield "L20: is"
    if isinstance(node, ast.Constant) and isinstance(node.value, str) and "%" in node.value:
        yield "L27: a string with a per cent sign"
    if isinstance(node, ast.GeneratorExp):
        yield "L5, L7: a generator expression, where a list always serves"
    if isinstance(node, ast.Import) or isinstance(node, ast.ImportFrom) and (
            node.level or not node.module.startswith(PACKAGE + ".")):
        yield "L2: an import"


def bound_names(tree):
    for node in tree.body:
        if isinstance(node, ast.ImportFrom):
            yield from [alias.asname or alias.name for alias in node.names]
        elif isinstance(node, (ast.FunctionDef, ast.ClassDef)):
            yield node.name
        elif isinstance(node, ast.Assign):
            yield from [target.id for target in node.targets]


def defined_names(tree):
    return [node.name for node in tree.body if isinstance(node, (ast.FunctionDef, ast.ClassDef))] + [
        target.id for node in tree.body if isinstance(node, ast.Assign) for target in node.targets]


def module_faults(tree, trees):
    names = list(bound_names(tree))
    for name in names:
        if names.count(name) > 1:
            yield 1, "L15: bound more than once: " + name
    for node in tree.body:
        if not isinstance(node, MODULE_LEVEL):
            yield node.lineno, "L3: a statement at module level"
        if isinstance(node, ast.ImportFrom):
            source = trees.get(node.module)
            for alias in node.names:
                if source is None or alias.name not in defined_names(source):
                    yield node.lineno, "L16: not defined in that file: " + alias.name
    barred = {n for node in tree.body if isinstance(node, ast.ImportFrom) for n in [a.name for a in node.names]}
    barred |= {node.name for node in tree.body if isinstance(node, ast.ClassDef)}
    for node in ast.walk(tree):
        name = node.arg if isinstance(node, ast.arg) else node.id if (
            isinstance(node, ast.Name) and isinstance(node.ctx, ast.Store)) else None
        if name in barred:
            yield node.lineno, "L15: the name of a class or an import: " + name


def clashes(trees):
    nodes = [node for tree in trees.values() for node in ast.walk(tree)]
    methods = [f for c in nodes if isinstance(c, ast.ClassDef) for f in c.body if isinstance(f, ast.FunctionDef)]
    plain = {f.name for f in methods if not any("setter" in ast.dump(d) or "'property'" in ast.dump(d)
                                                for d in f.decorator_list)}
    stored = {n.attr for n in nodes if isinstance(n, ast.Attribute) and isinstance(n.ctx, ast.Store)}
    return sorted(plain & stored)


def cycles(trees):
    above = {name: {node.module for node in tree.body if isinstance(node, ast.ImportFrom)}
             for name, tree in trees.items()}
    while free := [name for name in above if not above[name] & set(above)]:
        for name in free:
            del above[name]
    return sorted(above)


def main():
    folder = pathlib.Path(__file__).resolve().parent.parent / PACKAGE
    faults = []
    trees = {}
    for path in sorted(folder.iterdir()):
        if path.name == "__pycache__":
            continue
        if path.suffix != ".py":
            faults.append(f"{path.name}: L1: not a file of the package")
            continue
        text = path.read_text(encoding="utf-8")
        tree = ast.parse(text)
        trees[PACKAGE + "." + path.stem] = tree
        faults += [f"{path.name}:{line}: {fault}" for line, fault in text_faults(text)]
        faults += [f"{path.name}:{node.lineno}: {fault}" for node in ast.walk(tree) for fault in node_faults(node)]
    for name, tree in trees.items():
        faults += [f"{name}:{line}: {fault}" for line, fault in module_faults(tree, trees)]
    faults += [f"L18: a method and an attribute: {name}" for name in clashes(trees)]
    faults += [f"L16: imports in a circle: {name}" for name in cycles(trees)]
    print("\n".join(faults) or "form: no faults")
    sys.exit(1 if faults else 0)


main()
