"""The rules of writing that can be seen in the package's files."""

import ast
import builtins
import os
import unittest

PACKAGE = os.path.join(os.path.dirname(os.path.dirname(os.path.abspath(__file__))), "anchorpages")

BUILTINS = set("""len range enumerate zip min max sum abs sorted reversed int str bool list tuple dict set isinstance
    ord repr any all divmod ValueError KeyError""".split())
METHODS = set("""append clear copy count endswith extend find get index insert isdigit items join keys lower lstrip
    partition pop replace reverse rfind rpartition rstrip setdefault split startswith strip upper values zfill add""".split())
NODES = (ast.Global, ast.AsyncFunctionDef, ast.Await, ast.Starred, ast.Set, ast.Yield, ast.YieldFrom, ast.GeneratorExp,
         ast.Lambda, ast.AnnAssign, ast.NamedExpr, ast.Div, ast.With, ast.Import, ast.Nonlocal)
BARRED = set("""register mro elements open input law version_info with_traceback add_note compile copyright credits
    delattr dir eval exec exit gc globals help id license locals os quit super type vars sys""".split())


def modules():
    for name in sorted(os.listdir(PACKAGE)):
        if name != "__pycache__":
            with open(os.path.join(PACKAGE, name), encoding="utf-8") as source:
                yield name, source.read()


def trees():
    for name, source in modules():
        yield name, ast.parse(source)


def is_set(node):
    """Whether a set is made here."""
    return isinstance(node, ast.SetComp) or (
        isinstance(node, ast.Call) and isinstance(node.func, ast.Name) and node.func.id == "set")


def is_call_of(node, names):
    return isinstance(node, ast.Call) and isinstance(node.func, ast.Name) and node.func.id in names


def parents_of(tree):
    return {child: node for node in ast.walk(tree) for child in ast.iter_child_nodes(node)}


def own_names(tree):
    """The functions, methods and classes that a file defines."""
    return {node.name for node in ast.walk(tree)
            if isinstance(node, (ast.FunctionDef, ast.ClassDef)) and node.name != "__init__"}


def bound_names(tree):
    for node in ast.walk(tree):
        if isinstance(node, ast.Name) and isinstance(node.ctx, ast.Store):
            yield node.id
        elif isinstance(node, ast.arg):
            yield node.arg


class Writing(unittest.TestCase):
    def test_files(self):
        for name, source in modules():
            with self.subTest(name):
                self.assertTrue(name.endswith(".py"))
                self.assertEqual([sign for sign in source if sign != "\n" and not " " <= sign <= "~"], [])
                rows = source.split("\n")
                self.assertLessEqual(len(rows), 399)
                self.assertLessEqual(max(map(len, rows)), 120)

    def test_functions_are_short(self):
        for name, tree in trees():
            for node in ast.walk(tree):
                if isinstance(node, ast.FunctionDef):
                    with self.subTest(name=name, function=node.name):
                        self.assertLessEqual(node.end_lineno - node.lineno + 1, 40)
                        self.assertLessEqual([each.id for each in node.decorator_list], ["property"])

    def test_properties_change_nothing(self):
        """Each only tells an attribute of its object, and no method has its name."""
        for name, tree in trees():
            for node in ast.walk(tree):
                if isinstance(node, ast.FunctionDef) and node.decorator_list:
                    with self.subTest(name=name, function=node.name):
                        told = node.body[-1]
                        self.assertEqual(len(node.body), 2)
                        self.assertIsInstance(told, ast.Return)
                        self.assertIsInstance(told.value, ast.Attribute)
                        self.assertEqual(told.value.value.id, "self")
                        self.assertNotIn(node.name, METHODS)

    def test_imports(self):
        takes = {}
        for name, tree in trees():
            takes[name] = set()
            for node in ast.walk(tree):
                if isinstance(node, ast.ImportFrom):
                    with self.subTest(name=name, module=node.module):
                        self.assertTrue(node.module.startswith("anchorpages."))
                        self.assertIn(node, tree.body)
                        takes[name].add(node.module[len("anchorpages."):] + ".py")
        while takes:
            free = [name for name in takes if not takes[name] & set(takes)]
            self.assertNotEqual(free, [], "files import one another")
            for name in free:
                del takes[name]

    def test_sets(self):
        """A set is counted or sorted where it is made, or it has a name and is only asked and added to."""
        for name, tree in trees():
            for work in ast.walk(tree):
                if isinstance(work, ast.FunctionDef):
                    with self.subTest(name=name, function=work.name):
                        self.check_sets(work, parents_of(work))

    def check_sets(self, work, parents):
        made = [parents[node] for node in ast.walk(work) if is_set(node)]
        named = [parent for parent in made if isinstance(parent, ast.Assign)]
        names = [parent.targets[0].id for parent in named]
        self.assertEqual(len(names), len(set(names)))
        self.assertTrue(all(parent in named or is_call_of(parent, ("sorted", "len")) for parent in made))
        for node in ast.walk(work):
            if isinstance(node, ast.Name) and node.id in names and node not in [parent.targets[0] for parent in named]:
                parent = parents[node]
                asked = isinstance(parent, ast.Compare) and isinstance(parent.ops[-1], (ast.In, ast.NotIn)) and node is parent.comparators[-1]
                added = isinstance(parent, ast.Attribute) and parent.attr in ("add", "discard")
                self.assertTrue(asked or added or is_call_of(parent, ("len", "sorted")))

    def test_errors_of_python_are_not_caught(self):
        caught = {handler.type.id for _, tree in trees() for handler in ast.walk(tree) if isinstance(handler, ast.ExceptHandler)}
        self.assertLessEqual(caught, {"Refused", "KeyError", "PageError"})

    def test_only_what_is_allowed(self):
        own = set()
        for _, tree in trees():
            own |= own_names(tree)
        self.assertEqual(own & {"add", "discard"}, set())
        for name, tree in trees():
            decorators = {each.id for node in ast.walk(tree) if isinstance(node, ast.FunctionDef) for each in node.decorator_list}
            for node in ast.walk(tree):
                with self.subTest(name=name, line=getattr(node, "lineno", 0)):
                    self.assertNotIsInstance(node, NODES)
                    if isinstance(node, ast.Name) and hasattr(builtins, node.id):
                        self.assertIn(node.id, BUILTINS | decorators)
                    if isinstance(node, ast.Call) and isinstance(node.func, ast.Attribute):
                        self.assertIn(node.func.attr, METHODS | own)
                    if isinstance(node, ast.Constant) and isinstance(node.value, str):
                        self.assertNotIn("%", node.value)

    def test_names(self):
        for name, tree in trees():
            taken = {alias.name for node in ast.walk(tree) if isinstance(node, ast.ImportFrom)
                     for alias in node.names}
            classes = {node.name for node in tree.body if isinstance(node, ast.ClassDef)}
            top = [target.id for node in tree.body if isinstance(node, ast.Assign) for target in node.targets]
            self.assertEqual(len(top), len(set(top)))
            for bound in list(bound_names(tree)) + sorted(own_names(tree) - {"__eq__"}):
                with self.subTest(name=name, bound=bound):
                    self.assertFalse(hasattr(builtins, bound))
                    self.assertNotIn(bound, BARRED)
            methods = {each.name for node in tree.body if isinstance(node, ast.ClassDef) for each in node.body if isinstance(each, ast.FunctionDef)}
            functions = {node.name for node in tree.body if isinstance(node, ast.FunctionDef)}
            for bound in list(bound_names(tree)) + sorted(own_names(tree) - (methods - functions)):
                with self.subTest(name=name, bound=bound):
                    self.assertNotIn(bound, taken)
            for bound in bound_names(tree):
                with self.subTest(name=name, bound=bound):
                    self.assertNotIn(bound, classes)

    def test_attributes_are_assigned_through_names(self):
        for name, tree in trees():
            for node in ast.walk(tree):
                if isinstance(node, ast.Attribute) and isinstance(node.ctx, ast.Store):
                    with self.subTest(name=name, line=node.lineno):
                        self.assertIsInstance(node.value, ast.Name)

    def test_methods_are_no_attributes(self):
        """No name is a method of one class and an attribute of any."""
        methods, stored = set(), set()
        for _, tree in trees():
            for node in tree.body:
                if isinstance(node, ast.ClassDef):
                    methods |= {each.name for each in node.body if isinstance(each, ast.FunctionDef)}
                    stored |= {each.attr for each in ast.walk(node) if isinstance(each, ast.Attribute) and isinstance(each.ctx, ast.Store)}
        self.assertEqual(methods & stored, set())

    def test_tables_are_plain(self):
        """What stands at module level is written out there, and tables contain no lists or dicts."""
        for name, tree in trees():
            for node in tree.body:
                if isinstance(node, ast.Assign):
                    with self.subTest(name=name, line=node.lineno):
                        inner = list(ast.walk(node.value))
                        self.assertFalse(any(isinstance(each, (ast.Name, ast.Call)) for each in inner))
                        self.assertFalse(any(isinstance(each, (ast.List, ast.Dict)) for each in inner[1:]))


if __name__ == "__main__":
    unittest.main()
