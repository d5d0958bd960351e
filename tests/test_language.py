"""Some rules of the language that the package keeps to, and its interface."""

import ast
import builtins
import pathlib
import re
import unittest

PACKAGE = pathlib.Path(__file__).resolve().parent.parent / "lineasks"

BARRED = re.compile(
    r"\b(type|typing|typing_extensions|enum|Enum|IntEnum|StrEnum|Flag|IntFlag|Generic|Protocol|ABC|ABCMeta"
    r"|namedtuple|NamedTuple|TypedDict|TYPE_CHECKING|abstractmethod)\b|dataclass|overload|contextmanager")

METHODS = {
    "stations.py": {"Station": ("number", "places", "change", "take")},
    "lines.py": {"Line": ("send", "used")},
    "askers.py": {"Asker": ("read", "write", "write_all")},
    "streams.py": {"Ear": ("hear", "frames", "spots", "undecided", "many", "back", "forth", "twin")},
    "sheets.py": {"Sheet": ("lay", "drop", "put", "worth", "row", "names", "back", "forth", "steps", "twin")},
}

FUNCTIONS = {
    "frames.py": ("is_frame", "framed"),
    "asks.py": ("is_ask", "is_answer", "ask_frame", "frame_ask", "answer_frame", "frame_answer"),
    "rounds.py": ("is_table", "can_bear", "starts", "latest", "share"),
    "texts.py": ("frame_text", "read_frame"),
    "streams.py": ("packed",),
    "near.py": ("unlike", "near_frames", "meant"),
    "plans.py": ("reads_for", "cheapest_reads", "read_bytes", "cheapest_writes"),
    "sheets.py": ("sheet_text", "read_sheet"),
}


def sources():
    """The name, the text and the tree of each file."""
    for path in sorted(PACKAGE.glob("*.py")):
        text = path.read_text(encoding="utf-8")
        yield path.name, text, ast.parse(text)


class Language(unittest.TestCase):

    def test_only_plain_files(self):
        names = sorted(path.name for path in PACKAGE.iterdir() if path.name != "__pycache__")
        self.assertIn("__init__.py", names)
        for name in names:
            self.assertRegex(name, r"^[a-z0-9_]+\.py$")

    def test_characters_lines_and_words(self):
        for name, text, tree in sources():
            with self.subTest(name):
                self.assertRegex(text, r"\A[ -~\n]*\Z")
                self.assertIsNone(BARRED.search(text))
                self.assertLessEqual(len(text.splitlines()), 400)
                self.assertLessEqual(max(map(len, text.splitlines())), 120)

    def test_functions_are_short(self):
        for name, text, tree in sources():
            for node in ast.walk(tree):
                if isinstance(node, ast.FunctionDef):
                    with self.subTest(f"{name} {node.name}"):
                        self.assertLessEqual(node.end_lineno - node.lineno + 1, 40)

    def test_imports_are_of_the_package(self):
        for name, text, tree in sources():
            for node in ast.walk(tree):
                self.assertNotIsInstance(node, ast.Import, name)
                if isinstance(node, ast.ImportFrom):
                    self.assertEqual(node.level, 0, name)
                    self.assertRegex(node.module, r"^lineasks\.[a-z_]+$")

    def test_no_method_is_an_attribute(self):
        methods, attributes = set(), set()
        for name, text, tree in sources():
            for node in ast.walk(tree):
                if isinstance(node, ast.ClassDef):
                    methods |= {one.name for one in node.body if isinstance(one, ast.FunctionDef)}
                if isinstance(node, ast.Attribute) and isinstance(node.ctx, ast.Store):
                    attributes.add(node.attr)
        self.assertEqual(methods & attributes, set())

    def test_methods_stand_in_their_own_class(self):
        trees = {name: tree for name, text, tree in sources()}
        for name, classes in METHODS.items():
            found = {node.name: node for node in trees[name].body if isinstance(node, ast.ClassDef)}
            for made, wanted in classes.items():
                told = {one.name for one in found[made].body if isinstance(one, ast.FunctionDef)}
                self.assertLessEqual(set(wanted), told)

    def test_functions_stand_in_their_file(self):
        trees = {name: tree for name, text, tree in sources()}
        for name, wanted in FUNCTIONS.items():
            found = {node.name for node in trees[name].body if isinstance(node, ast.FunctionDef)}
            self.assertLessEqual(set(wanted), found)

    def test_no_variable_has_the_name_of_a_builtin_or_an_import(self):
        for name, text, tree in sources():
            taken = set(dir(builtins))
            for node in ast.walk(tree):
                if isinstance(node, ast.ImportFrom):
                    taken |= {one.name for one in node.names}
            for node in ast.walk(tree):
                if isinstance(node, ast.Name) and isinstance(node.ctx, ast.Store):
                    self.assertNotIn(node.id, taken, name)
                if isinstance(node, ast.arg):
                    self.assertNotIn(node.arg, taken, name)


if __name__ == "__main__":
    unittest.main()
