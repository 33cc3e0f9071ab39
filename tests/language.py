"""Finds what in the files of the package is outside of the language of the program, as far as can be seen easily."""

import ast
import builtins
import os
import re

BUILTINS = set("""len range enumerate zip min max sum abs sorted reversed int str bool list tuple dict set isinstance
ord repr any all divmod Exception ValueError TypeError KeyError IndexError LookupError ZeroDivisionError
ArithmeticError OverflowError RuntimeError NotImplementedError AttributeError StopIteration""".split())
METHODS = set("""append clear copy count endswith extend find get index insert isalnum isalpha isdigit islower
isspace isupper items join keys ljust lower lstrip partition pop remove replace reverse rfind rjust rpartition
rsplit rstrip setdefault split splitlines startswith strip update upper values zfill bit_length""".split())
CHANGING = {"append", "clear", "extend", "insert", "pop", "remove", "reverse", "setdefault", "update", "sort"}
BARRED_NAMES = set("""mro elements open input law version_info with_traceback add_note register attrgetter breakpoint
builtins compile copyright credits delattr dir eval exec exit gc getattr globals hasattr help id importlib license
locals methodcaller os quit setattr super type vars sys""".split())
BARRED_ATTRIBUTES = set("""items keys values pop update append clear extend insert remove reverse setdefault sort args
encode decode hex fromhex format format_map mro law elements open input register""".split())
BARRED_WORDS = set("""type typing typing_extensions enum Enum IntEnum StrEnum Flag IntFlag Generic Protocol ABC ABCMeta
namedtuple NamedTuple TypedDict TYPE_CHECKING abstractmethod""".split())
LIBRARY = {"heapq": {"heappush", "heappop", "heapify"}, "math": {"gcd", "lcm", "isqrt", "comb", "perm", "factorial"},
           "itertools": {"product", "combinations", "permutations"}}
STATEMENTS = (ast.Assign, ast.AugAssign, ast.If, ast.While, ast.For, ast.Return, ast.Break, ast.Continue, ast.Pass,
              ast.Raise, ast.Expr, ast.FunctionDef, ast.ClassDef, ast.ImportFrom, ast.Try, ast.Delete)
EXPRESSIONS = (ast.BinOp, ast.UnaryOp, ast.BoolOp, ast.Compare, ast.Call, ast.Attribute, ast.Subscript, ast.Slice,
               ast.Name, ast.Constant, ast.List, ast.Tuple, ast.Dict, ast.IfExp, ast.ListComp, ast.DictComp,
               ast.SetComp, ast.GeneratorExp, ast.JoinedStr, ast.FormattedValue)
AT_ONCE = {"list", "tuple", "dict", "sorted", "sum", "any", "all", "enumerate", "zip", "min", "max"}


def files_of(folder):
    found = []
    for here, folders, files in os.walk(folder):
        folders[:] = [name for name in folders if name != "__pycache__"]
        found += [os.path.join(here, name) for name in files]
    return sorted(found)


def is_text(node):
    return isinstance(node, ast.Expr) and isinstance(node.value, ast.Constant) and isinstance(node.value.value, str)


def docstrings(tree):
    found = set()
    for node in ast.walk(tree):
        if isinstance(node, (ast.Module, ast.FunctionDef, ast.ClassDef)) and node.body and is_text(node.body[0]):
            found.add(id(node.body[0].value))
    return found


def bound_names(node):
    """The names that a function binds, those of comprehensions and of what is nested in it included."""
    found = []
    for one in ast.walk(node):
        if isinstance(one, ast.Name) and isinstance(one.ctx, (ast.Store, ast.Del)):
            found.append(one.id)
        elif isinstance(one, ast.arg):
            found.append(one.arg)
        elif isinstance(one, ast.ExceptHandler) and one.name:
            found.append(one.name)
    return found


class File:
    def __init__(self, path, package):
        self.path = path
        with open(path, encoding="utf-8") as file:
            self.text = file.read()
        self.tree = ast.parse(self.text)
        self.module = os.path.relpath(path, os.path.dirname(package))[:-3].replace(os.sep, ".")
        self.parents = {}
        for node in ast.walk(self.tree):
            for child in ast.iter_child_nodes(node):
                self.parents[child] = node
        self.imports = {}
        for node in self.tree.body:
            if isinstance(node, ast.ImportFrom):
                for name in node.names:
                    self.imports[name.name] = node.module
        self.defined = [node.name for node in self.tree.body if isinstance(node, (ast.FunctionDef, ast.ClassDef))]
        self.values = [node.targets[0].id for node in self.tree.body
                       if isinstance(node, ast.Assign) and isinstance(node.targets[0], ast.Name)]


class Finder:
    """Collects the faults of a package as texts."""

    def __init__(self, package):
        self.package = package
        self.faults = []
        self.files = []
        for path in files_of(package):
            if path.endswith(".py"):
                self.files.append(File(path, package))
            else:
                self.say(None, None, "L1: not a .py file: " + path)
        self.own_methods = {name.name for file in self.files for node in ast.walk(file.tree)
                            if isinstance(node, ast.ClassDef) for name in node.body
                            if isinstance(name, ast.FunctionDef)}

    def say(self, file, node, text):
        where = file.path if file else ""
        self.faults.append(f"{where}:{getattr(node, 'lineno', '')}: {text}")

    def find(self):
        self.of_folders()
        for file in self.files:
            self.of_text(file)
            self.of_module(file)
            for node in ast.walk(file.tree):
                self.of_node(file, node)
                if isinstance(node, ast.FunctionDef):
                    self.of_function(file, node)
            self.of_strings(file)
        self.of_cycles()
        return self.faults

    def of_folders(self):
        if len(self.files) > 100:
            self.say(None, None, "L14: too many files")
        for here, folders, names in os.walk(self.package):
            folders[:] = [name for name in folders if name != "__pycache__"]
            if "__init__.py" not in names:
                self.say(None, None, "L14: no __init__.py in " + here)
            for name in folders + [name[:-3] for name in names]:
                if name != "__init__" and not re.fullmatch("[a-z][a-z0-9_]*", name):
                    self.say(None, None, "L14: name of " + name)
                if name.startswith("law_") or name.startswith("test") or name in dir(builtins):
                    self.say(None, None, "L14: name of " + name)
                if name in folders and name + ".py" in names:
                    self.say(None, None, "L14: file beside a folder: " + name)

    def of_text(self, file):
        lines = file.text.split("\n")
        if len(lines) - 1 > 399:
            self.say(file, None, "L10: too many lines")
        for number, line in enumerate(lines):
            if len(line) > 120 or any(not " " <= sign <= "~" for sign in line) or line != line.rstrip():
                self.say(file, None, f"L10, L14: line {number + 1}")
        if not file.text.endswith("\n"):
            self.say(file, None, "no newline at the end")

    def of_module(self, file):
        begun = False
        for k, node in enumerate(file.tree.body):
            if isinstance(node, ast.ImportFrom):
                if begun:
                    self.say(file, node, "L2: import below other code")
                self.of_import(file, node)
                continue
            if k == 0 and is_text(node):
                continue
            begun = True
            if isinstance(node, ast.Assign):
                if len(node.targets) != 1 or not isinstance(node.targets[0], ast.Name):
                    self.say(file, node, "L3: not one plain name")
                if self.is_table_of_functions(file, node):
                    continue
                try:
                    self.of_value(file, node, ast.literal_eval(node.value))
                except ValueError:
                    self.say(file, node, "L3: not a plain value")
            elif not isinstance(node, (ast.FunctionDef, ast.ClassDef)):
                self.say(file, node, "L3: statement at module level")
        names = list(file.imports) + file.defined + file.values
        if len(names) != len(set(names)):
            self.say(file, None, "L15: a name is bound twice")
        for name in names:
            if name in dir(builtins):
                self.say(file, None, "L15: the name of a builtin: " + name)
        used = {node.id for node in ast.walk(file.tree) if isinstance(node, ast.Name)}
        for name in file.imports:
            if name not in used:
                self.say(file, None, "not used: " + name)

    def is_table_of_functions(self, file, node):
        """True for a dict of functions that are defined above it."""
        above = [one.name for one in file.tree.body
                 if isinstance(one, ast.FunctionDef) and one.lineno < node.lineno]
        return isinstance(node.value, ast.Dict) and all(
            isinstance(key, ast.Constant) and isinstance(one, ast.Name) and one.id in above
            for key, one in zip(node.value.keys, node.value.values))

    def of_value(self, file, node, value):
        inner = value.values() if isinstance(value, dict) else value if isinstance(value, (list, tuple)) else []
        if any(isinstance(one, (list, dict, set)) for one in inner):
            self.say(file, node, "L15: a list in a list at module level")

    def of_import(self, file, node):
        if node.level or any(name.asname or name.name == "*" for name in node.names):
            self.say(file, node, "L2: form of an import")
            return
        if node.module in LIBRARY:
            for name in node.names:
                if name.name not in LIBRARY[node.module]:
                    self.say(file, node, "L2: library: " + name.name)
            return
        for other in self.files:
            if other.module == node.module:
                for name in node.names:
                    if name.name not in other.defined + other.values:
                        self.say(file, node, "L16: not defined there: " + name.name)
                return
        self.say(file, node, "L2: import from " + node.module)

    def of_cycles(self):
        imports = {file.module: set(file.imports.values()) for file in self.files}

        def visit(module, way):
            if module in way:
                self.faults.append("L16: files import each other: " + " ".join(way + [module]))
                return
            for other in imports.get(module, ()):
                visit(other, way + [module])
        for module in imports:
            visit(module, [])

    def of_strings(self, file):
        told = docstrings(file.tree)
        for node in ast.walk(file.tree):
            if isinstance(node, ast.Constant) and isinstance(node.value, str) and id(node) not in told:
                if "%" in node.value or node.value.endswith(("._", ".__")) or "__" in node.value:
                    self.say(file, node, "L27: string " + node.value)
            if isinstance(node, ast.Constant) and isinstance(node.value, (float, complex, bytes)):
                self.say(file, node, "L7: number or bytes")

    def of_node(self, file, node):
        if isinstance(node, ast.stmt) and not isinstance(node, STATEMENTS):
            self.say(file, node, "L6: statement " + node.__class__.__name__)
        if isinstance(node, ast.expr) and not isinstance(node, EXPRESSIONS):
            self.say(file, node, "L7: expression " + node.__class__.__name__)
        check = getattr(self, "of_" + node.__class__.__name__, None)
        if check:
            check(file, node)

    def of_Name(self, file, node):
        if node.id in BARRED_NAMES or node.id in BARRED_WORDS:
            self.say(file, node, "L17: name " + node.id)
        if not re.fullmatch("_|_?[A-Za-z][A-Za-z0-9_]*", node.id) or node.id.startswith(("_wall", "_law_", "_pe_")):
            self.say(file, node, "L12: name " + node.id)
        if isinstance(node.ctx, ast.Load) and node.id == "_":
            self.say(file, node, "L12: _ is read")
        if isinstance(node.ctx, ast.Store) and node.id in dir(builtins):
            self.say(file, node, "L15: the name of a builtin: " + node.id)
        if isinstance(node.ctx, ast.Load) and node.id in dir(builtins) and node.id not in BUILTINS:
            self.say(file, node, "L8: builtin " + node.id)

    def of_arg(self, file, node):
        if node.annotation or node.arg in BARRED_NAMES or node.arg in dir(builtins) or node.arg in BARRED_WORDS:
            self.say(file, node, "L17: parameter " + node.arg)

    def of_keyword(self, file, node):
        if node.arg in BARRED_NAMES or node.arg is None:
            self.say(file, node, "L17: keyword")

    def of_Attribute(self, file, node):
        called = isinstance(file.parents[node], ast.Call) and file.parents[node].func is node
        if called:
            if node.attr not in METHODS and node.attr not in self.own_methods and node.attr != "__init__":
                self.say(file, node, "L25: method " + node.attr)
        elif node.attr in ("__class__", "__name__"):
            if ast.unparse(node) not in ("self.__class__", "self.__class__.__name__"):
                self.say(file, node, "L8: " + node.attr)
        elif node.attr in BARRED_ATTRIBUTES or node.attr.startswith("__"):
            self.say(file, node, "L26: attribute " + node.attr)

    def of_BinOp(self, file, node):
        if isinstance(node.op, ast.Div):
            self.say(file, node, "L7: /")
        if isinstance(node.op, ast.Pow) and not isinstance(node.right, ast.Constant):
            self.say(file, node, "L27: exponent")
        if isinstance(node.op, ast.Mod) and isinstance(node.left, ast.Constant):
            self.say(file, node, "L27: a string on the left of %")

    def of_Compare(self, file, node):
        for op, right in zip(node.ops, node.comparators):
            if isinstance(op, (ast.Is, ast.IsNot)):
                if not (isinstance(right, ast.Constant) and right.value in (None, True, False)):
                    self.say(file, node, "L20: is")

    def of_GeneratorExp(self, file, node):
        call = file.parents[node]
        name = call.func.id if isinstance(call, ast.Call) and isinstance(call.func, ast.Name) else ""
        if name not in ("list", "tuple", "dict", "sorted", "sum", "min", "max", "any", "all") or len(call.args) != 1:
            self.say(file, node, "L7: generator expression")

    def of_SetComp(self, file, node):
        call = file.parents[node]
        if not (isinstance(call, ast.Call) and isinstance(call.func, ast.Name) and call.func.id in ("sorted", "len")):
            self.say(file, node, "L24: set")

    def of_Call(self, file, node):
        if isinstance(node.func, ast.Name):
            name = node.func.id
            if name in ("set", "frozenset"):
                self.say(file, node, "L24: set")
            if name in ("zip", "enumerate", "reversed", "range"):
                self.of_at_once(file, node)
            allowed = {"sorted": {"reverse", "key"}, "min": {"key", "default"}, "max": {"key", "default"}}
            for keyword in node.keywords:
                if keyword.arg not in allowed.get(name, ()):
                    self.say(file, node, "L22: keyword of " + name)
        elif isinstance(node.func, ast.Attribute):
            if node.func.attr in ("items", "keys", "values") and node.func.attr not in self.own_methods:
                self.of_at_once(file, node)
            if node.keywords:
                self.say(file, node, "L25: keyword of a method")
            if node.func.attr == "join" and not isinstance(node.func.value, ast.Constant):
                self.say(file, node, "L23: join")
        else:
            self.say(file, node, "L7: what is called")

    def of_at_once(self, file, node):
        above = file.parents[node]
        if isinstance(above, (ast.For, ast.comprehension)) and above.iter is node:
            return
        if isinstance(above, ast.Call) and isinstance(above.func, ast.Name) and above.args and above.args[0] is node:
            if above.func.id in AT_ONCE:
                return
            if above.func.id == "reversed" and ast.unparse(node).startswith("range("):
                return
        self.say(file, node, "L23: not iterated at once: " + ast.unparse(node))

    def of_For(self, file, node):
        told = ast.unparse(node.iter)
        names = {ast.unparse(one) for one in ast.walk(node.iter) if isinstance(one, (ast.Name, ast.Attribute))}
        if isinstance(node.iter, ast.Call) and ast.unparse(node.iter.func) in ("range", "list", "sorted"):
            names = set()
        for one in ast.walk(ast.Module(body=node.body, type_ignores=[])):
            target = None
            if isinstance(one, ast.Call) and isinstance(one.func, ast.Attribute) and one.func.attr in CHANGING:
                target = one.func.value
            elif isinstance(one, ast.Subscript) and isinstance(one.ctx, (ast.Store, ast.Del)):
                target = one.value
            while isinstance(target, ast.Subscript):
                target = target.value
            if target is not None and ast.unparse(target) in names:
                self.say(file, one, "L23: changed in its loop: " + told)

    def of_ClassDef(self, file, node):
        if node.decorator_list or not isinstance(file.parents[node], ast.Module):
            self.say(file, node, "L5: class")
        methods = [one.name for one in node.body if isinstance(one, ast.FunctionDef)]
        stored = {one.attr for one in ast.walk(node) if isinstance(one, ast.Attribute) and isinstance(one.ctx, ast.Store)}
        if len(methods) != len(set(methods)) or stored & set(methods) or stored & BARRED_ATTRIBUTES:
            self.say(file, node, "L18: names of methods and attributes")
        for one in node.body:
            if not isinstance(one, ast.FunctionDef) and not is_text(one):
                self.say(file, one, "L5: in a class")
        if set(methods) & {"decode"} or any(name.startswith("__") and name != "__init__" for name in methods):
            self.say(file, node, "L5: method")

    def of_function(self, file, node):
        if node.end_lineno - node.lineno + 1 > 40:
            self.say(file, node, "L10: too long: " + node.name)
        if node.decorator_list or node.returns or node.args.vararg or node.args.kwarg or node.args.kwonlyargs:
            self.say(file, node, "L4: form of " + node.name)
        if isinstance(file.parents[node], ast.FunctionDef):
            self.say(file, node, "L4: nested: " + node.name)
        if node.name in dir(builtins) or node.name in BARRED_NAMES:
            self.say(file, node, "L15: name of " + node.name)
        barred = set(file.imports) | {one.name for one in file.tree.body if isinstance(one, ast.ClassDef)}
        own = set(bound_names(node))
        for name in own & barred:
            self.say(file, node, "L15: a local name is that of an import: " + name)
        # The interface calls some parameters like functions.
        for name in own & set(file.defined) - {one.arg for one in node.args.args}:
            self.say(file, node, "a local name is that of a function: " + name)
        self.of_comprehensions(file, node)
        known = own | set(file.imports) | set(file.defined) | set(file.values) | BUILTINS
        for one in ast.walk(node):
            if isinstance(one, ast.Name) and one.id not in known:
                self.say(file, one, "unknown name " + one.id)
        read = [one.id for one in ast.walk(node) if isinstance(one, ast.Name) and isinstance(one.ctx, ast.Load)]
        for name in own - set(read) - {"_", "self"}:
            self.say(file, node, f"not used in {node.name}: {name}")

    def of_comprehensions(self, file, node):
        """The variables of a comprehension in another one are not names of the function or of the other one."""
        kinds = (ast.ListComp, ast.DictComp, ast.SetComp, ast.GeneratorExp)
        own = {arg.arg for arg in node.args.args}
        inside = set()
        for one in ast.walk(node):
            if isinstance(one, kinds):
                inside |= {id(name) for name in ast.walk(one)}
        own |= {one.id for one in ast.walk(node)
                if isinstance(one, ast.Name) and isinstance(one.ctx, ast.Store) and id(one) not in inside}
        for outer in ast.walk(node):
            if isinstance(outer, kinds):
                told = {name for part in outer.generators for name in bound_names(part.target)}
                for inner in ast.walk(outer):
                    if isinstance(inner, kinds) and inner is not outer:
                        names = {name for part in inner.generators for name in bound_names(part.target)} - {"_"}
                        if names & (told | own):
                            self.say(file, inner, f"L7: names in comprehensions: {sorted(names & (told | own))}")
