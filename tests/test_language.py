"""The package keeps to the rules of its language that can be seen line by line, and to its interface."""

import ast
import pathlib
import re
import unittest

ROOT = pathlib.Path(__file__).resolve().parent.parent
FILES = sorted((ROOT / "gonemarks").rglob("*.py"))

INTERFACE = {
    "errors": "GoneError NoBook NoDeed NoLines NoPaper NoBack NoWorld NoMeeting NoRow",
    "names": "is_seat is_dot is_thing begins child_of stems",
    "knowing": "acks_of reach_of closure lacking asks",
    "gochecker": "is_paper lets_go",
    "books": "are_things are_marks are_lefts is_book first_book right_book known_seats",
    "texts": "number_text seat_text dot_text read_number read_seat read_dot row_text read_row book_lines read_book",
    "letters": "is_letter is_right_letter tell tell_all",
    "going": "paper_for let_go",
    "paperlines": "paper_lines read_paper",
    "taking": "passes_over is_passed take",
    "worlds": "is_world first_world seats_of sitting book_of counts_of holders markers tellers",
    "shields": "shielded",
    "worldchecker": "lets_world",
    "own": "thing_of going_with put out",
    "lettertexts": "letter_lines read_letter",
    "worldlines": "world_lines read_world",
    "backchecker": "lets_back steps_back",
    "contrary": "contrary_for verdict contrary_lines read_contrary",
    "moving": "bring cut leave doubtful",
    "deeds": "is_deed done walked",
    "alldeeds": "deeds_from",
    "renaming": "world_turned deed_turned",
    "views": "shown standing names_at sum_at row_at outline",
    "alike": "are_alike apart missing",
    "meetings": "meeting rounds",
    "gone": "state_of gone_dots bringing",
    "desk": "Desk",
}

BARRED = set("""type typing typing_extensions enum Enum IntEnum StrEnum Flag IntFlag Generic Protocol ABC ABCMeta
    namedtuple NamedTuple TypedDict TYPE_CHECKING abstractmethod""".split())

BUILTINS = set("""len range enumerate zip min max sum abs sorted reversed int str bool list tuple dict set
    isinstance ord repr any all divmod ValueError KeyError""".split())

METHODS = set("""append clear copy count endswith extend find get index insert isalnum isalpha isdigit islower isspace
    isupper items join keys ljust lower lstrip partition pop remove replace reverse rfind rjust rpartition rsplit
    rstrip setdefault split splitlines startswith strip update upper values zfill bit_length""".split())

STATEMENTS = (ast.Assign, ast.AugAssign, ast.If, ast.While, ast.For, ast.Return, ast.Break, ast.Continue, ast.Pass,
              ast.Raise, ast.Expr, ast.FunctionDef, ast.ClassDef, ast.ImportFrom, ast.Try)


class Language(unittest.TestCase):
    def each(self):
        for path in FILES:
            text = path.read_text(encoding="utf-8")
            yield path, text, ast.parse(text, path.name)

    def test_files(self):
        self.assertGreater(len(FILES), 1)
        inside = [path for path in (ROOT / "gonemarks").rglob("*") if "__pycache__" not in path.parts]
        self.assertEqual(sorted(inside), FILES)
        for path in FILES:
            self.assertRegex(path.name, r"^[a-z_]+\.py$")

    def test_signs_and_sizes(self):
        for path, text, tree in self.each():
            self.assertRegex(text, r"\A[ -~\n]*\Z")
            self.assertNotIn("%", re.sub(r" % ", "", text))
            lines = text.split("\n")
            self.assertLess(len(lines), 400)
            self.assertLessEqual(max(len(line) for line in lines), 120)
            for node in ast.walk(tree):
                if isinstance(node, ast.FunctionDef):
                    self.assertLessEqual(node.end_lineno - node.lineno + 1, 40, node.name)

    def test_words(self):
        for path, text, tree in self.each():
            self.assertEqual(BARRED & set(re.findall(r"\w+", text)), set())
            self.assertNotRegex(text, "dataclass|overload|contextmanager")

    def test_imports(self):
        imported = {}
        for path, text, tree in self.each():
            defined = [node for node in tree.body if isinstance(node, ast.ImportFrom)]
            imported[path.stem] = [node.module.partition(".")[2] for node in defined]
            for node in defined:
                self.assertEqual((node.module.partition(".")[0], node.level), ("gonemarks", 0))
                source = ROOT / "gonemarks" / (node.module.partition(".")[2] + ".py")
                names = self.bound(ast.parse(source.read_text()))
                for alias in node.names:
                    self.assertIn(alias.name, names)
                    self.assertIsNone(alias.asname)
        while imported:
            free = [name for name, needs in imported.items() if not set(needs) & set(imported)]
            self.assertTrue(free, "files import from each other: " + str(imported))
            for name in free:
                del imported[name]

    def bound(self, tree):
        names = [node.name for node in tree.body if isinstance(node, (ast.FunctionDef, ast.ClassDef))]
        return names + [node.targets[0].id for node in tree.body if isinstance(node, ast.Assign)]

    def test_statements(self):
        for path, text, tree in self.each():
            for node in ast.walk(tree):
                if isinstance(node, ast.stmt):
                    self.assertIsInstance(node, STATEMENTS)
                self.assertEqual(getattr(node, "decorator_list", []), [])
                self.assertNotIsInstance(node, (ast.Div, ast.Set, ast.SetComp, ast.Global, ast.Yield))
                if isinstance(node, ast.Constant):
                    self.assertNotIsInstance(node.value, (float, complex))

    def test_names(self):
        import builtins
        for path, text, tree in self.each():
            for node in ast.walk(tree):
                if isinstance(node, ast.Name):
                    self.assertFalse(node.id.startswith("_"), node.id)
                    if hasattr(builtins, node.id):
                        self.assertIn(node.id, BUILTINS)
                        self.assertIsInstance(node.ctx, ast.Load)
                if isinstance(node, ast.arg):
                    self.assertFalse(hasattr(builtins, node.arg), node.arg)

    def test_no_local_name_hides_an_import(self):
        for path, text, tree in self.each():
            imports = {alias.name for node in tree.body if isinstance(node, ast.ImportFrom) for alias in node.names}
            for node in ast.walk(tree):
                if isinstance(node, ast.arg):
                    self.assertNotIn(node.arg, imports)
                if isinstance(node, ast.Name) and isinstance(node.ctx, ast.Store):
                    self.assertNotIn(node.id, imports)
            names = self.bound(tree)
            self.assertEqual(len(names), len(set(names)))
            self.assertEqual(set(names) & imports, set())

    def test_methods(self):
        for path, text, tree in self.each():
            for node in ast.walk(tree):
                if isinstance(node, ast.Call) and isinstance(node.func, ast.Attribute):
                    self.assertIn(node.func.attr, METHODS)
                    self.assertEqual(node.keywords, [])

    def test_interface_is_defined_where_it_is_listed(self):
        for module, names in INTERFACE.items():
            tree = ast.parse((ROOT / "gonemarks" / (module + ".py")).read_text())
            defined = [node.name for node in tree.body if isinstance(node, (ast.FunctionDef, ast.ClassDef))]
            for name in names.split():
                self.assertIn(name, defined)

    def test_methods_are_defined_in_their_class(self):
        tree = ast.parse((ROOT / "gonemarks" / "desk.py").read_text())
        desk = next(node for node in tree.body if isinstance(node, ast.ClassDef) and node.name == "Desk")
        self.assertIn("say", [node.name for node in desk.body if isinstance(node, ast.FunctionDef)])


if __name__ == "__main__":
    unittest.main()
