"""The rules of the language that can be seen by looking at the files alone."""

import ast
import builtins
import re
import unittest
from pathlib import Path

FOLDER = Path(__file__).resolve().parent.parent / "reprise"
FILES = sorted(FOLDER.glob("*.py"))

BUILTINS = set("""len range enumerate zip min max sum abs sorted reversed int str bool bytes list tuple dict set
frozenset isinstance ord repr any all divmod iter next super property staticmethod classmethod Exception ValueError
TypeError KeyError IndexError LookupError ZeroDivisionError ArithmeticError OverflowError RuntimeError
NotImplementedError AttributeError StopIteration NotImplemented""".split())

BARRED_WORDS = """type typing typing_extensions enum Enum IntEnum StrEnum Flag IntFlag Generic Protocol ABC ABCMeta
namedtuple NamedTuple TypedDict TYPE_CHECKING abstractmethod""".split()

BARRED_NAMES = set("""register mro elements open input law version_info with_traceback add_note attrgetter breakpoint
builtins compile copyright credits delattr dir eval exec exit gc getattr globals hasattr help id importlib license
locals methodcaller os quit setattr type vars sys""".split())


def trees():
    return [(path.name, ast.parse(path.read_text())) for path in FILES]


def bound_names(tree):
    """Names that a file gives to something of its own."""
    for node in ast.walk(tree):
        if isinstance(node, (ast.FunctionDef, ast.ClassDef)):
            yield node.name
        elif isinstance(node, ast.arg):
            yield node.arg
        elif isinstance(node, ast.Name) and isinstance(node.ctx, ast.Store):
            yield node.id
        elif isinstance(node, (ast.MatchAs, ast.MatchStar)) and node.name is not None:
            yield node.name


class Files(unittest.TestCase):
    def test_the_folder_has_files_of_plain_names_and_nothing_else(self):
        for path in FOLDER.iterdir():
            if path.name != "__pycache__":
                self.assertRegex(path.name, r"^(__init__|__main__|[a-z][a-z0-9_]*)\.py$")

    def test_sizes(self):
        for path in FILES:
            lines = path.read_text().splitlines()
            self.assertLessEqual(len(lines), 399, path.name)
            for at, line in enumerate(lines, 1):
                self.assertLessEqual(len(line), 120, f"{path.name}:{at}")
        for name, tree in trees():
            for node in ast.walk(tree):
                if isinstance(node, ast.FunctionDef):
                    self.assertLessEqual(node.end_lineno - node.lineno + 1, 40, f"{name} {node.name}")

    def test_characters_and_words(self):
        for path in FILES:
            text = path.read_text()
            self.assertRegex(text, r"\A[ -~\n]*\Z", path.name)
            for word in BARRED_WORDS:
                self.assertIsNone(re.search(rf"\b{word}\b", text), f"{path.name} {word}")
            for part in ("dataclass", "overload", "contextmanager"):
                self.assertNotIn(part, text, path.name)

    def test_imports(self):
        for name, tree in trees():
            for node in ast.walk(tree):
                self.assertNotIsInstance(node, ast.Import, name)
                if isinstance(node, ast.ImportFrom):
                    self.assertIn(node, tree.body, name)
                    self.assertEqual(node.level, 0, name)
                    self.assertTrue(node.module.startswith("reprise."), name)
                    self.assertNotIn("*", [alias.name for alias in node.names], name)

    def test_each_import_names_the_file_that_defines_it(self):
        defined = {name[:-3]: {node.name for node in tree.body if isinstance(node, (ast.FunctionDef, ast.ClassDef))}
                   | {target.id for node in tree.body if isinstance(node, ast.Assign) for target in node.targets}
                   for name, tree in trees()}
        for name, tree in trees():
            for node in tree.body:
                if isinstance(node, ast.ImportFrom):
                    for alias in node.names:
                        self.assertIn(alias.name, defined[node.module.split(".")[1]], name)

    def test_no_two_files_import_from_each_other(self):
        ahead = {name[:-3]: {node.module.split(".")[1] for node in tree.body if isinstance(node, ast.ImportFrom)}
                 for name, tree in trees()}
        while ahead:
            free = [name for name in ahead if not ahead[name] & set(ahead)]
            self.assertNotEqual(free, [], sorted(ahead))
            ahead = {name: ahead[name] for name in ahead if name not in free}


INTERFACE = {
    "errors": ["RepriseError", "BadLength", "BadStretch", "NoPlace", "NoNumber", "BadLetter", "Full", "InUse",
               "NothingLeft", "BadPage"],
    "stretches": ["tidy", "breadth", "has", "meet", "under", "kth"],
    "classes": ["Classes"],
    "likes": ["alike", "parted", "beat", "mirror"],
    "small": ["each_first", "wrong", "path", "leads"],
    "memory": ["Memories"],
    "book": ["Book"],
    "pages": ["page", "read"],
    "desk": ["Desk"],
}

METHODS = {
    "Classes": ["length", "count", "firsts", "first", "same", "below", "numbered", "image"],
    "Memories": ["note", "settled", "free", "quarrel", "shown"],
    "Book": ["length", "coming", "sayings", "memories", "say", "remember", "unsay", "amend", "forget", "lengthen",
             "shorten", "undo", "redo", "undoable", "redoable", "classes", "heard", "if_said", "twin"],
    "Desk": ["tell", "book"],
}

ARGUMENTS = {
    "stretches": {"tidy": "rows", "breadth": "rows", "has": "rows place", "meet": "rows others", "under": "rows place",
                  "kth": "rows k"},
    "classes": {"__init__": "length sayings", "length": "", "count": "", "firsts": "", "first": "place",
                "same": "one other", "below": "place", "numbered": "k", "image": "at many"},
    "likes": {"alike": "length sayings one other many turned", "parted": "length sayings one other many turned",
              "beat": "length sayings at many step", "mirror": "length sayings at many"},
    "small": {"each_first": "length sayings", "wrong": "length sayings told", "path": "length sayings one other",
              "leads": "length sayings one steps"},
    "memory": {"__init__": "classes rows", "note": "place", "settled": "", "free": "", "quarrel": "",
               "shown": "at many"},
    "book": {"__init__": "length", "length": "", "coming": "", "sayings": "", "memories": "",
             "say": "one other many turned", "remember": "letter at many", "unsay": "number",
             "amend": "number one other many turned", "forget": "number", "lengthen": "many", "shorten": "many",
             "undo": "", "redo": "", "undoable": "", "redoable": "", "classes": "", "heard": "",
             "if_said": "one other many turned", "twin": ""},
    "pages": {"page": "book", "read": "text"},
    "desk": {"__init__": "length", "tell": "text", "book": ""},
}


class Interface(unittest.TestCase):
    def test_each_name_is_defined_in_its_file(self):
        for file, names in INTERFACE.items():
            tree = ast.parse((FOLDER / f"{file}.py").read_text())
            defined = [node.name for node in tree.body if isinstance(node, (ast.FunctionDef, ast.ClassDef))]
            for name in names:
                self.assertIn(name, defined)

    def test_each_method_is_defined_in_its_class(self):
        for name, tree in trees():
            for node in tree.body:
                if isinstance(node, ast.ClassDef):
                    defined = [part.name for part in node.body if isinstance(part, ast.FunctionDef)]
                    for method in METHODS.get(node.name, []):
                        self.assertIn(method, defined)

    def test_arguments(self):
        for file, told in ARGUMENTS.items():
            tree = ast.parse((FOLDER / f"{file}.py").read_text())
            defined = {node.name: [part.arg for part in node.args.args if part.arg != "self"]
                       for node in ast.walk(tree) if isinstance(node, ast.FunctionDef)}
            for name, names in told.items():
                self.assertEqual(defined[name], names.split(), f"{file} {name}")


class Names(unittest.TestCase):
    def test_own_names(self):
        for name, tree in trees():
            for word in bound_names(tree):
                if word != "__init__":
                    self.assertRegex(word, r"^[A-Za-z][A-Za-z0-9_]*$", name)
                    self.assertNotIn(word, BARRED_NAMES, name)
                    self.assertFalse(hasattr(builtins, word), f"{name} {word}")

    def test_builtins_in_use(self):
        for name, tree in trees():
            for node in ast.walk(tree):
                if isinstance(node, ast.Name) and hasattr(builtins, node.id):
                    self.assertIn(node.id, BUILTINS, f"{name}:{node.lineno}")

    def test_no_local_name_hides_a_class_or_an_import(self):
        for name, tree in trees():
            taken = {node.name for node in tree.body if isinstance(node, ast.ClassDef)}
            taken |= {alias.name for node in tree.body if isinstance(node, ast.ImportFrom) for alias in node.names}
            for node in ast.walk(tree):
                if isinstance(node, ast.FunctionDef):
                    for word in bound_names(ast.Module(node.body, [])):
                        self.assertNotIn(word, taken, f"{name} {node.name}")
                    for argument in node.args.args:
                        self.assertNotIn(argument.arg, taken, f"{name} {node.name}")

    def test_no_name_is_a_method_here_and_an_attribute_there(self):
        methods, attributes = set(), set()
        for name, tree in trees():
            for node in ast.walk(tree):
                if isinstance(node, ast.ClassDef):
                    methods |= {part.name for part in node.body if isinstance(part, ast.FunctionDef)}
                elif isinstance(node, ast.Attribute) and isinstance(node.ctx, ast.Store):
                    attributes.add(node.attr)
        self.assertEqual(methods & attributes, set())


def captured_names(node):
    """Names that the patterns in a part of a file capture."""
    return {part.name for part in ast.walk(node) if isinstance(part, (ast.MatchAs, ast.MatchStar)) and part.name}


class Matches(unittest.TestCase):
    def test_a_captured_name_means_nothing_else_in_its_function(self):
        for name, tree in trees():
            for node in ast.walk(tree):
                if isinstance(node, ast.FunctionDef):
                    stored = {part.id for part in ast.walk(node)
                              if isinstance(part, ast.Name) and isinstance(part.ctx, ast.Store)}
                    stored |= {part.arg for part in ast.walk(node) if isinstance(part, ast.arg)}
                    self.assertEqual(stored & captured_names(node), set(), f"{name} {node.name}")

    def test_a_captured_name_is_read_in_its_own_case_only(self):
        for name, tree in trees():
            for node in ast.walk(tree):
                if isinstance(node, ast.FunctionDef):
                    for case in [part for part in ast.walk(node) if isinstance(part, ast.match_case)]:
                        read = {part.id for part in ast.walk(case) if isinstance(part, ast.Name)}
                        self.assertLessEqual(read & captured_names(node), captured_names(case.pattern),
                                             f"{name} {node.name}")


class Expressions(unittest.TestCase):
    def test_no_float_and_no_division_with_a_rest(self):
        for name, tree in trees():
            for node in ast.walk(tree):
                self.assertNotIsInstance(node, ast.Div, name)
                if isinstance(node, ast.Constant):
                    self.assertNotIsInstance(node.value, (float, complex), name)

    def test_is_stands_with_none_and_truths_only(self):
        for name, tree in trees():
            for node in ast.walk(tree):
                if isinstance(node, ast.Compare):
                    for sign, side in zip(node.ops, node.comparators):
                        if isinstance(sign, (ast.Is, ast.IsNot)):
                            self.assertIn(ast.dump(side), [ast.dump(ast.Constant(v)) for v in (None, True, False)])

    def test_no_percent_sign_in_a_text(self):
        for name, tree in trees():
            for node in ast.walk(tree):
                if isinstance(node, ast.Constant) and isinstance(node.value, str):
                    self.assertNotIn("%", node.value, name)


if __name__ == "__main__":
    unittest.main()
