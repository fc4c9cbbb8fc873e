"""Rules of form that hold for all files of the package."""

import ast
import builtins
import pathlib
import re
import unittest

PACKAGE = pathlib.Path(__file__).resolve().parent.parent / "windowcuts"
BUILTINS = """len range enumerate zip min max sum abs sorted reversed int str bool list tuple dict set isinstance ord
repr any all divmod ValueError TypeError KeyError property staticmethod NotImplemented""".split()
METHODS = """append clear copy count endswith extend find get index insert items join keys partition pop remove replace
rsplit setdefault split startswith strip update values isdigit""".split()
BARRED = r"""\b(type|typing|enum|register|mro|elements|open|input|law|eval|exec|id|vars|dir|compile|_wall\w*)\b"""


def files():
    return sorted(PACKAGE.glob("**/*.py"))


def bound_names(tree):
    """All names that a tree binds: variables, parameters, functions and classes."""
    for node in ast.walk(tree):
        if isinstance(node, ast.Name) and isinstance(node.ctx, ast.Store):
            yield node.id
        elif isinstance(node, ast.arg):
            yield node.arg


def imports(tree):
    return [alias.name for node in tree.body if isinstance(node, ast.ImportFrom) for alias in node.names]


class Language(unittest.TestCase):
    def each(self):
        texts = [path.read_text(encoding="utf-8") for path in files()]
        return [(text, ast.parse(text)) for text in texts]

    def test_sizes_and_characters(self):
        for text, tree in self.each():
            self.assertRegex(text, r"\A[ -~\n]*\Z")
            lines = text.splitlines()
            self.assertLessEqual(len(lines), 399)
            self.assertLessEqual(max(map(len, lines)), 120)
            for node in ast.walk(tree):
                if isinstance(node, ast.FunctionDef):
                    self.assertLessEqual(node.end_lineno - node.lineno + 1, 40, node.name)

    def test_only_sources_in_the_folder(self):
        names = [path.name for path in PACKAGE.iterdir() if path.name != "__pycache__"]
        self.assertEqual([name for name in names if not re.fullmatch(r"[a-z_]+\.py", name)], [])

    def test_imports(self):
        for _, tree in self.each():
            for node in ast.walk(tree):
                self.assertNotIsInstance(node, ast.Import)
                if isinstance(node, ast.ImportFrom):
                    self.assertRegex(node.module, r"\Awindowcuts\.[a-z]+\Z")
                    self.assertEqual([alias.asname for alias in node.names], [None] * len(node.names))
            self.assertEqual(len(imports(tree)), len(set(imports(tree))))

    def test_no_circle_of_imports(self):
        leads = {}
        for path in files():
            tree = ast.parse(path.read_text(encoding="utf-8"))
            froms = [node.module.split(".")[1] for node in tree.body if isinstance(node, ast.ImportFrom)]
            leads[path.stem] = set(froms)
        while leads:
            free = [name for name in leads if not leads[name] & set(leads)]
            self.assertTrue(free, leads)
            for name in free:
                del leads[name]

    def test_no_barred_nodes(self):
        barred = (
            ast.GeneratorExp, ast.Global, ast.AsyncFunctionDef, ast.Div, ast.NamedExpr, ast.SetComp, ast.AugAssign,
            ast.Try, ast.With, ast.AnnAssign,
        )
        for _, tree in self.each():
            for node in ast.walk(tree):
                self.assertNotIsInstance(node, barred, getattr(node, "lineno", None))
                if isinstance(node, ast.Constant):
                    self.assertNotIsInstance(node.value, (float, bytes, complex))
                    if isinstance(node.value, str):
                        self.assertNotIn("%", node.value)
                if isinstance(node, ast.Set):
                    self.fail("a set is written as a literal")

    def test_builtins_and_their_names(self):
        for _, tree in self.each():
            # An interactive Python, such as that of doctest, adds the name _ to the builtins.
            bound = set(bound_names(tree)) - {"_"}
            self.assertEqual(bound & set(dir(builtins)), set())
            own = set(imports(tree)) | {node.name for node in tree.body if isinstance(node, ast.ClassDef)}
            self.assertEqual(bound & own, set())
            for node in ast.walk(tree):
                if isinstance(node, ast.Name) and hasattr(builtins, node.id) and node.id != "_":
                    self.assertIn(node.id, BUILTINS)

    def test_methods_of_builtin_values(self):
        own = set()
        for _, tree in self.each():
            own |= {node.name for node in ast.walk(tree) if isinstance(node, ast.FunctionDef)}
        for _, tree in self.each():
            for node in ast.walk(tree):
                if isinstance(node, ast.Call) and isinstance(node.func, ast.Attribute):
                    self.assertIn(node.func.attr, set(METHODS) | own)

    def test_own_methods_are_called_where_they_stand(self):
        own = set()
        for _, tree in self.each():
            for node in ast.walk(tree):
                if isinstance(node, ast.ClassDef):
                    plain = [one for one in node.body if isinstance(one, ast.FunctionDef) and not one.decorator_list]
                    own |= {one.name for one in plain if not one.name.startswith("__")}
        for _, tree in self.each():
            called = [node.func for node in ast.walk(tree) if isinstance(node, ast.Call)]
            for node in ast.walk(tree):
                if isinstance(node, ast.Attribute) and node.attr in own:
                    self.assertIn(node, called, node.attr)

    def test_no_stars_in_calls(self):
        for _, tree in self.each():
            for node in ast.walk(tree):
                self.assertNotIsInstance(node, ast.Starred)
                if isinstance(node, ast.Call):
                    self.assertNotIn(None, [keyword.arg for keyword in node.keywords])

    def test_names_of_methods_and_properties(self):
        methods, stored, properties = set(), set(), set()
        for _, tree in self.each():
            for node in ast.walk(tree):
                if isinstance(node, ast.FunctionDef) and node.args.args and node.args.args[0].arg == "self":
                    (properties if node.decorator_list else methods).add(node.name)
                if isinstance(node, ast.Attribute) and isinstance(node.ctx, ast.Store):
                    stored.add(node.attr)
        self.assertEqual((methods & stored, properties & (methods | stored)), (set(), set()))

    def test_reversed_takes_lists(self):
        for _, tree in self.each():
            for node in ast.walk(tree):
                if isinstance(node, ast.Call) and isinstance(node.func, ast.Name) and node.func.id == "reversed":
                    self.assertIn(getattr(node.args[0].func, "id", None), ("list", "tuple", "sorted", "range"))

    def test_barred_words(self):
        for _, tree in self.each():
            words = list(bound_names(tree))
            for node in ast.walk(tree):
                words += [getattr(node, "attr", ""), getattr(node, "name", "") or ""]
                if isinstance(node, ast.Name):
                    words.append(node.id)
            self.assertEqual([word for word in words if re.search(BARRED, word)], [])

    def test_module_level(self):
        allowed = (ast.Expr, ast.ImportFrom, ast.FunctionDef, ast.ClassDef, ast.Assign)
        for _, tree in self.each():
            self.assertTrue(all(isinstance(node, allowed) for node in tree.body))
            names = [node.name for node in tree.body if hasattr(node, "name")] + imports(tree)
            names += [node.targets[0].id for node in tree.body if isinstance(node, ast.Assign)]
            self.assertEqual(len(names), len(set(names)))


if __name__ == "__main__":
    unittest.main()
