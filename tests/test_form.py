"""The form of the code, as far as a glance at its tree tells, and where the interface stands."""

import ast
import pathlib
import re
import unittest

PACKAGE = pathlib.Path(__file__).resolve().parent.parent / "pickline"
FILES = sorted(PACKAGE.rglob("*.py"))
BARRED_WORDS = ("type", "typing", "enum", "Enum", "Flag", "Generic", "Protocol", "ABC", "namedtuple",
                "NamedTuple", "TypedDict")
BARRED_NAMES = ("register", "mro", "elements", "open", "input", "law", "eval", "exec", "getattr", "id",
                "dir", "vars", "help", "os", "compile")
INTERFACE = {
    "errors.py": ("PickError", "BadTrunk", "BadLine", "BadChange", "BadNames", "BadNumber", "BadRows",
                  "Barring", "NoDeed"),
    "trunks.py": ("has", "hangs", "editions", "apart"),
    "answers.py": ("Answer", "Lot", "Barred", "Mended", "Unmended", "Either", "Full", "Bar"),
    "picking.py": ("pick", "reach", "mend"),
    "texts.py": ("written", "read", "written_lines", "read_lines"),
    "board.py": ("Board",),
}
METHODS = {
    "Lot": {"shows": "self, trunk, line, change, barred"},
    "Barred": {"shows": "self, trunk, line, change, barred"},
    "Mended": {"shows": "self, trunk, line, faults, barred"},
    "Unmended": {"shows": "self, trunk, line, faults, barred"},
    "Either": {"closes": "self, trunk, line, faults, barred, many=None, chosen=None"},
    "Full": {"closes": "self, trunk, line, faults, barred, many=None, chosen=None"},
    "Bar": {"closes": "self, trunk, line, faults, barred, many=None, chosen=None"},
    "Board": {"__init__": "self, trunk", "cut": "self, name, many", "pick": "self, name, change, barred=None",
              "back": "self, name, change", "undo": "self", "lines": "self", "has": "self, name"},
}
ARGUMENTS = {
    "has": "trunk, line", "hangs": "trunk, line, change", "editions": "trunk, line, one, other",
    "apart": "trunk, line, other", "pick": "trunk, line, change, barred=None", "reach": "trunk, lines, fault",
    "mend": "trunk, line, faults, barred=None", "written": "trunk", "read": "text",
    "written_lines": "trunk, lines", "read_lines": "trunk, text",
}


class Form(unittest.TestCase):

    def each(self):
        for path in FILES:
            text = path.read_text(encoding="utf-8")
            yield path, text, ast.parse(text)

    def test_the_folder_holds_files_of_code_only(self):
        for path in PACKAGE.rglob("*"):
            if "__pycache__" not in path.parts and not path.is_dir():
                self.assertRegex(path.name, r"^(__init__|[a-z][a-z0-9_]*)\.py$")
        self.assertIn(PACKAGE / "__init__.py", FILES)

    def test_signs_and_sizes(self):
        for path, text, tree in self.each():
            self.assertEqual(re.sub(r"[ -~\n]", "", text), "")
            self.assertLessEqual(len(text.splitlines()), 399)
            self.assertLessEqual(max(len(row) for row in text.splitlines()), 120)
            for node in ast.walk(tree):
                if isinstance(node, ast.FunctionDef):
                    self.assertLessEqual(node.end_lineno - node.lineno + 1, 40, node.name)

    def test_words_and_names(self):
        for path, text, tree in self.each():
            self.assertEqual([word for word in re.findall(r"\w+", text) if word in BARRED_WORDS], [])
            names = [node.id for node in ast.walk(tree) if isinstance(node, ast.Name)]
            names += [node.arg for node in ast.walk(tree) if isinstance(node, ast.arg)]
            self.assertEqual([name for name in names if name in BARRED_NAMES or name[0] == "_"], [])

    def test_imports(self):
        for path, text, tree in self.each():
            for node in ast.walk(tree):
                self.assertNotIsInstance(node, ast.Import)
                if isinstance(node, ast.ImportFrom):
                    self.assertEqual(node.level, 0)
                    self.assertRegex(node.module, r"^pickline\.[a-z]+$")
                    self.assertIn(node, tree.body)

    def test_statements_and_values(self):
        barred = (ast.Global, ast.AsyncFunctionDef, ast.GeneratorExp, ast.Set, ast.Yield, ast.Try, ast.Div)
        for path, text, tree in self.each():
            for node in ast.walk(tree):
                self.assertNotIsInstance(node, barred)
                if isinstance(node, ast.Constant):
                    self.assertNotIsInstance(node.value, float)
                if isinstance(node, (ast.FunctionDef, ast.ClassDef)):
                    self.assertEqual(node.decorator_list, [])
                if isinstance(node, ast.Compare) and isinstance(node.ops[0], (ast.Is, ast.IsNot)):
                    self.assertIsInstance(node.comparators[0], ast.Constant)

    def test_the_interface_stands_where_it_is_listed(self):
        for name, due in INTERFACE.items():
            tree = ast.parse((PACKAGE / name).read_text(encoding="utf-8"))
            made = {node.name: node for node in tree.body if isinstance(node, (ast.FunctionDef, ast.ClassDef))}
            for word in due:
                self.assertIn(word, made)
                if word in ARGUMENTS:
                    self.assertEqual(ast.unparse(made[word].args), ARGUMENTS[word])
                if word in METHODS:
                    found = {node.name: ast.unparse(node.args) for node in made[word].body
                             if isinstance(node, ast.FunctionDef)}
                    for method, arguments in METHODS[word].items():
                        self.assertEqual(found.get(method), arguments, (word, method))

    def test_a_name_is_a_method_or_an_attribute(self):
        methods, attributes = set(), set()
        for path, text, tree in self.each():
            for node in ast.walk(tree):
                if isinstance(node, ast.ClassDef):
                    methods.update(part.name for part in node.body if isinstance(part, ast.FunctionDef))
                if isinstance(node, ast.Attribute) and isinstance(node.ctx, ast.Store):
                    attributes.add(node.attr)
        self.assertEqual(methods & attributes, set())

    def test_no_local_name_is_an_import_or_a_class(self):
        for path, text, tree in self.each():
            bound = [name.name for node in tree.body if isinstance(node, ast.ImportFrom) for name in node.names]
            bound += [node.name for node in tree.body if isinstance(node, (ast.ClassDef, ast.FunctionDef))]
            self.assertEqual(len(bound), len(set(bound)), path)
            local = [node.id for node in ast.walk(tree) if isinstance(node, ast.Name) and isinstance(node.ctx, ast.Store)]
            local += [node.arg for node in ast.walk(tree) if isinstance(node, ast.arg)]
            self.assertEqual([name for name in local if name in bound], [], path)


if __name__ == "__main__":
    unittest.main()
