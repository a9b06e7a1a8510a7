"""The rules of the language for the files of the package, as far as they can be seen from the code."""

import ast
import builtins
import os
import re
import sys
import unittest

ROOT = os.path.dirname(os.path.dirname(os.path.abspath(__file__)))
PACKAGE = os.path.join(ROOT, "paidbyheirs")
BUILTINS = set("""len range enumerate zip min max sum abs sorted reversed int str bool bytes list tuple dict set frozenset
isinstance ord repr any all divmod pow Exception ValueError TypeError KeyError IndexError LookupError ZeroDivisionError
ArithmeticError OverflowError RuntimeError NotImplementedError AttributeError StopIteration""".split())
# Without the name that doctest leaves there.
BUILT_IN = set(dir(builtins)) - {"_"}
METHODS = set("""append clear copy count endswith extend find get index insert isalnum isalpha isdigit islower isspace
isupper items join keys ljust lower lstrip partition pop remove replace reverse rfind rjust rpartition rsplit rstrip
setdefault split splitlines startswith strip update upper values zfill bit_length add discard""".split())
LIBRARY = {"heapq": {"heappush", "heappop", "heapify", "heapreplace", "heappushpop"},
           "math": {"gcd", "lcm", "isqrt", "comb", "perm", "factorial"},
           "itertools": {"product", "combinations", "permutations", "chain", "accumulate", "pairwise", "islice",
                         "zip_longest"}, "collections": {"defaultdict"}}
BARRED = set("""register mro elements open input law version_info with_traceback add_note attrgetter breakpoint builtins
compile copyright credits delattr dir eval exec exit gc getattr globals hasattr help id importlib license locals
methodcaller os quit setattr super type vars sys _wall""".split())
WORDS = set("""type typing typing_extensions enum Enum IntEnum StrEnum Flag IntFlag Generic Protocol ABC ABCMeta namedtuple
NamedTuple TypedDict TYPE_CHECKING abstractmethod _wall _WallAttr""".split())
STATEMENTS = (ast.Assign, ast.AugAssign, ast.If, ast.While, ast.For, ast.Return, ast.Break, ast.Continue, ast.Pass,
              ast.Raise, ast.Assert, ast.Delete, ast.Expr, ast.Try, ast.FunctionDef, ast.ClassDef, ast.ImportFrom)
ITERATED = {"zip", "enumerate", "reversed", "range"}
ITERATES = {"list", "tuple", "dict", "sorted", "sum", "any", "all", "enumerate", "zip", "min", "max", "reversed", "len"}


def files():
    return sorted(name for name in os.listdir(PACKAGE) if name != "__pycache__")


def sources():
    told = {}
    for name in files():
        with open(os.path.join(PACKAGE, name), encoding="utf-8", newline="") as held:
            told[name] = held.read()
    return told


def bound_names(tree):
    """Each name that the file binds, wherever, with its node."""
    for node in ast.walk(tree):
        if isinstance(node, (ast.FunctionDef, ast.ClassDef)):
            yield node.name, node
        if isinstance(node, ast.Name) and isinstance(node.ctx, ast.Store):
            yield node.id, node
        if isinstance(node, ast.arg):
            yield node.arg, node
        if isinstance(node, ast.alias):
            yield node.asname or node.name, node
        if isinstance(node, ast.ExceptHandler) and node.name:
            yield node.name, node


class Language(unittest.TestCase):

    def setUp(self):
        self.texts = sources()
        self.trees = {name: ast.parse(text) for name, text in self.texts.items()}
        self.parents = {}
        for tree in self.trees.values():
            for node in ast.walk(tree):
                for child in ast.iter_child_nodes(node):
                    self.parents[child] = node

    def nodes(self, *kinds):
        for name, tree in self.trees.items():
            for node in ast.walk(tree):
                if isinstance(node, kinds):
                    yield f"{name}:{getattr(node, 'lineno', 0)}", node

    def test_files(self):
        for name in files():
            self.assertRegex(name, r"^([a-z][a-z0-9_]*|__init__)\.py$")
            self.assertNotIn(name[:-3], BUILT_IN)
            self.assertFalse(name.startswith(("test", "law_")))
            self.assertNotIn(name[:-3], BARRED | {"site", "conftest"})
        self.assertIn("__init__.py", files())
        self.assertNotIn("paidbyheirs", sys.stdlib_module_names)

    def test_characters_and_sizes(self):
        for name, text in self.texts.items():
            self.assertEqual(re.sub(r"[ -~\n]", "", text), "", name)
            self.assertTrue(text.endswith("\n"))
            self.assertLessEqual(len(text.splitlines()), 399)
            self.assertLessEqual(max(len(line) for line in text.splitlines()), 120)
        for place, node in self.nodes(ast.FunctionDef):
            self.assertLessEqual(node.end_lineno - node.lineno + 1, 40, place)

    def test_each_file_class_and_function_is_told(self):
        for place, node in self.nodes(ast.Module, ast.ClassDef):
            self.assertTrue(ast.get_docstring(node), place)
        for place, node in self.nodes(ast.FunctionDef):
            self.assertTrue(ast.get_docstring(node) or node.name == "__init__", place)

    def test_statements(self):
        for place, node in self.nodes(ast.stmt):
            self.assertIsInstance(node, STATEMENTS, place)
        for place, node in self.nodes(ast.FunctionDef, ast.ClassDef):
            self.assertEqual(node.decorator_list, [], place)
        for name, tree in self.trees.items():
            for node in tree.body:
                plain = isinstance(node, (ast.ImportFrom, ast.FunctionDef, ast.ClassDef))
                told = isinstance(node, ast.Expr) and isinstance(node.value, ast.Constant)
                value = isinstance(node, ast.Assign) and isinstance(node.targets[0], ast.Name)
                self.assertTrue(plain or told and node is tree.body[0] or value, f"{name}:{node.lineno}")
                if value:
                    ast.literal_eval(node.value)

    def test_imports(self):
        own = {name[:-3] for name in self.texts}
        ahead = {name[:-3]: set() for name in self.texts}
        for name, tree in self.trees.items():
            for node in [node for node in ast.walk(tree) if isinstance(node, ast.ImportFrom)]:
                self.assertIn(node, tree.body)
                words = [alias.name for alias in node.names]
                if node.module in LIBRARY:
                    self.assertLessEqual(set(words), LIBRARY[node.module])
                    continue
                package, _, file = node.module.partition(".")
                self.assertEqual((package, file in own, node.level), ("paidbyheirs", True, 0))
                defined = [one.name for one in self.trees[file + ".py"].body
                           if isinstance(one, (ast.FunctionDef, ast.ClassDef))]
                defined += [one.targets[0].id for one in self.trees[file + ".py"].body if isinstance(one, ast.Assign)]
                self.assertLessEqual(set(words), set(defined), name)
                ahead[name[:-3]].add(file)
        while ahead:
            free = [name for name in ahead if not ahead[name] & set(ahead)]
            self.assertNotEqual(free, [], f"imports go round in {sorted(ahead)}")
            for name in free:
                del ahead[name]

    def test_imports_are_used(self):
        for name, tree in self.trees.items():
            read = {node.id for node in ast.walk(tree) if isinstance(node, ast.Name)}
            for node in tree.body:
                if isinstance(node, ast.ImportFrom):
                    self.assertLessEqual({alias.name for alias in node.names}, read, name)

    def test_names(self):
        for name, tree in self.trees.items():
            barred = BARRED | BUILT_IN
            for word, node in bound_names(tree):
                if word.startswith("__") and isinstance(self.parents.get(node), ast.ClassDef):
                    self.assertIn(word, ("__init__", "__eq__", "__repr__", "__str__", "__len__"))
                    continue
                self.assertRegex(word, r"^(_?[A-Za-z][A-Za-z0-9_]*|_)$")
                self.assertNotIn(word, barred, name)
            for node in ast.walk(tree):
                if isinstance(node, ast.Name) and node.id == "_":
                    self.assertIsInstance(node.ctx, ast.Store, f"{name}:{node.lineno}")

    def test_one_binding_for_each_name(self):
        for name, tree in self.trees.items():
            top = [word for word, node in bound_names(tree) if self.parents.get(node) is tree
                   or isinstance(self.parents.get(node), (ast.ImportFrom, ast.Assign))
                   and self.parents[self.parents[node]] is tree]
            self.assertEqual(len(top), len(set(top)), name)
            for word, node in bound_names(tree):
                if not (self.parents.get(node) is tree or self.parents[self.parents[node]] is tree
                        and not isinstance(self.parents[node], ast.FunctionDef)):
                    self.assertNotIn(word, top, f"{name}:{getattr(node, 'lineno', 0)}")

    def test_builtins(self):
        for name, tree in self.trees.items():
            for node in ast.walk(tree):
                if isinstance(node, ast.Name) and node.id in BUILT_IN:
                    self.assertIn(node.id, BUILTINS, f"{name}:{node.lineno}")

    def test_methods(self):
        own = {node.name for _, node in self.nodes(ast.FunctionDef)}
        for place, node in self.nodes(ast.Call):
            if isinstance(node.func, ast.Attribute):
                self.assertIn(node.func.attr, METHODS | own, place)

    def test_words(self):
        for name, text in self.texts.items():
            bare = re.sub(r'"""(.|\n)*?"""|#.*', "", text)
            self.assertEqual(set(re.findall(r"\w+", bare)) & WORDS, set(), name)
            for word in ("dataclass", "overload", "contextmanager", "_wall"):
                self.assertNotIn(word, bare, name)

    def test_expressions(self):
        # As Board has an __eq__, generator expressions would have to be looked at one by one.
        for place, node in self.nodes(ast.GeneratorExp, ast.Div, ast.Lambda, ast.Await, ast.Set, ast.SetComp,
                                      ast.Global, ast.Yield, ast.Is, ast.IsNot):
            if isinstance(node, (ast.Is, ast.IsNot)):
                other = self.parents[node].comparators[0]
                self.assertIsInstance(other, ast.Constant, place)
                continue
            self.fail(f"{place} {node}")
        for place, node in self.nodes(ast.Constant):
            self.assertNotIsInstance(node.value, (float, complex), place)
            if isinstance(node.value, str):
                self.assertNotIn("%", node.value, place)
                self.assertNotRegex(node.value, r"\._{1,2}$")

    def test_comprehensions_in_others_have_names_of_their_own(self):
        """The variable of a comprehension in another one, or in a nested function, has no name from further out."""
        kinds = (ast.ListComp, ast.DictComp)
        for place, node in self.nodes(*kinds):
            own = self.stored(*[part.target for part in node.generators])
            over, above = [], node
            while above in self.parents:
                above = self.parents[above]
                if isinstance(above, (*kinds, ast.FunctionDef)):
                    over.append(above)
            # Directly in a function at module level, or in a method, a name of this may come again.
            for outer in over if len(over) > 1 else ():
                if isinstance(outer, kinds):
                    further = self.stored(*[part.target for part in outer.generators])
                else:
                    inner = {one for comp in ast.walk(outer) if isinstance(comp, kinds) for one in ast.walk(comp)}
                    further = self.stored(*[one for one in ast.walk(outer) if one not in inner and one is not outer
                                            and isinstance(one, (ast.Name, ast.arg))])
                self.assertEqual(own & further - {"_"}, set(), place)

    def stored(self, *parts):
        """The names that are bound in these parts."""
        names = {getattr(one, "arg", None) or one.id for part in parts for one in ast.walk(part)
                 if isinstance(one, ast.arg) or isinstance(one, ast.Name) and isinstance(one.ctx, ast.Store)}
        return names

    def test_stars_and_the_library_in_calls(self):
        own = {node.name for _, node in self.nodes(ast.FunctionDef, ast.ClassDef)}
        library = set().union(*LIBRARY.values())
        for place, node in self.nodes(ast.Call):
            if any(isinstance(one, ast.Starred) for one in node.args):
                called = getattr(node.func, "id", getattr(node.func, "attr", None))
                self.assertIn(called, own | {"max", "min", "zip"}, place)
            if getattr(node.func, "id", None) in library:
                self.assertEqual(node.keywords, [], place)
        for place, node in self.nodes(ast.Name):
            if node.id in library:
                above = self.parents[node]
                self.assertTrue(isinstance(above, ast.Call) and above.func is node, place)

    def test_sets_and_what_is_iterated_at_once(self):
        for place, node in self.nodes(ast.Call):
            if not isinstance(node.func, ast.Name):
                continue
            above = self.parents[node]
            call = above.func.id if isinstance(above, ast.Call) and isinstance(above.func, ast.Name) else None
            if node.func.id == "set":
                self.assertIn(call, ("sorted", "len"), place)
            if node.func.id in ITERATED:
                head = isinstance(above, (ast.For, ast.comprehension)) and above.iter is node
                self.assertTrue(head or call in ITERATES, place)

    def test_loops_do_not_change_what_they_go_over(self):
        for place, node in self.nodes(ast.For):
            over = {one.id for one in ast.walk(node.iter) if isinstance(one, ast.Name)}
            for one in [one for row in node.body for one in ast.walk(row)]:
                if isinstance(one, ast.Call) and isinstance(one.func, ast.Attribute):
                    if one.func.attr in ("append", "extend", "pop", "insert", "remove", "clear", "update"):
                        self.assertNotIn(getattr(one.func.value, "id", None), over, place)
                if isinstance(one, ast.Subscript) and isinstance(one.ctx, ast.Store):
                    self.assertNotIn(getattr(one.value, "id", None), over, place)


if __name__ == "__main__":
    unittest.main()
