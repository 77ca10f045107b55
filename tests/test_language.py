"""The package keeps to the small subset of Python that it is written in, as far as a test can easily tell."""

import ast
import builtins
import pathlib
import re
import unittest

PACKAGE = pathlib.Path(__file__).resolve().parent.parent / "levelties"
FILES = sorted(PACKAGE.glob("*.py"))

BARRED_NODES = (ast.GeneratorExp, ast.Global, ast.AsyncFunctionDef, ast.Await, ast.AnnAssign, ast.Div, ast.YieldFrom,
                ast.Yield, ast.Import, ast.Set)
BUILTINS = """len range enumerate zip min max sum abs sorted reversed int str bool bytes list tuple dict set isinstance
ord repr any all divmod ValueError TypeError KeyError IndexError""".split()
METHODS = """append clear copy count endswith extend find get index insert isalnum isalpha isdigit islower isspace
isupper items join keys ljust lower lstrip partition pop remove replace reverse rfind rjust rpartition rsplit rstrip
setdefault split splitlines startswith strip update upper values zfill bit_length""".split()
DUNDERS = ["__init__", "__len__", "__getitem__", "__iter__", "__eq__", "__str__"]
BARRED_NAMES = "register mro elements open input law version_info with_traceback add_note".split()
BARRED_WORDS = "type typing enum Enum Flag Generic Protocol ABC namedtuple NamedTuple dataclass overload".split()


def is_builtin(word):
    """Whether a name is a builtin; the last result, which a shell or a doctest keeps there, is none."""
    return word != "_" and hasattr(builtins, word)


def parsed():
    """The files with their trees."""
    return [(path.name, ast.parse(path.read_text(encoding="utf-8"))) for path in FILES]


def code_text(path):
    """The text of a file without docstrings and comments."""
    text = re.sub(r'"""(.|\n)*?"""', "", path.read_text(encoding="utf-8"))
    return re.sub(r"#.*", "", text)


def bound_names(tree):
    """All names that a file binds, but for attributes and methods."""
    for node in ast.walk(tree):
        if isinstance(node, ast.Name) and isinstance(node.ctx, ast.Store):
            yield node.id
        elif isinstance(node, ast.arg):
            yield node.arg
    for node in tree.body:
        if isinstance(node, (ast.FunctionDef, ast.ClassDef)):
            yield node.name


def own_functions(tree):
    """The names of all functions and methods of a file."""
    return [node.name for node in ast.walk(tree) if isinstance(node, ast.FunctionDef)]


def has_star(tree):
    """Whether there is a star, or two for a dict, anywhere in a piece of code."""
    nodes = list(ast.walk(tree))
    return any(isinstance(node, ast.Starred) or isinstance(node, ast.Dict) and None in node.keys for node in nodes)


class LanguageTest(unittest.TestCase):

    def test_folder(self):
        names = [path.name for path in PACKAGE.iterdir() if path.name != "__pycache__"]
        self.assertEqual(sorted(names), [path.name for path in FILES])
        for name in names:
            self.assertTrue(re.fullmatch(r"[a-z_]+\.py", name), name)

    def test_sizes_and_characters(self):
        for path in FILES:
            lines = path.read_text(encoding="utf-8").split("\n")
            self.assertLessEqual(len(lines), 399, path.name)
            for line in lines:
                self.assertLessEqual(len(line), 120, line)
                self.assertTrue(all(" " <= sign <= "~" for sign in line), line)
        for name, tree in parsed():
            for node in ast.walk(tree):
                if isinstance(node, ast.FunctionDef):
                    self.assertLessEqual(node.end_lineno - node.lineno + 1, 40, (name, node.name))

    def test_no_barred_parts(self):
        for name, tree in parsed():
            for node in ast.walk(tree):
                self.assertNotIsInstance(node, BARRED_NODES, (name, getattr(node, "lineno", 0)))
                if isinstance(node, ast.Constant):
                    self.assertNotIsInstance(node.value, (float, complex), name)

    def test_no_star_in_an_index(self):
        for name, tree in parsed():
            for node in ast.walk(tree):
                if isinstance(node, ast.Subscript):
                    self.assertFalse(has_star(node.slice), (name, node.lineno))

    def test_stars_are_found(self):
        for text in ("rows[(*xs, 1)]", "rows[*xs, 1]", "rows[1][(2, (*xs, 1))]", "rows[len([*xs, 1])]",
                     "rows[(*xs,):]", "rows[len({**xs})]"):
            self.assertTrue(has_star(ast.parse(text, mode="eval").body.slice), text)
        for text in ("rows[xs]", "rows[2 * k]", "rows[2 ** k, 1]", "rows[{1: 2}[k]]"):
            self.assertFalse(has_star(ast.parse(text, mode="eval").body.slice), text)

    def test_imports(self):
        known = {f"levelties.{name[:-3]}": [node.name for node in tree.body if hasattr(node, "name")]
                 for name, tree in parsed()}
        for name, tree in parsed():
            for node in ast.walk(tree):
                if isinstance(node, ast.ImportFrom):
                    self.assertEqual(node.level, 0)
                    self.assertIn(node, tree.body)
                    for alias in node.names:
                        self.assertIn(alias.name, known[node.module], name)
                        self.assertIsNone(alias.asname)
                        self.assertNotIn(alias.name, list(bound_names(tree)), name)

    def test_names(self):
        for name, tree in parsed():
            for word in bound_names(tree):
                self.assertFalse(is_builtin(word), (name, word))
                self.assertNotIn(word, BARRED_NAMES + BARRED_WORDS, name)
                self.assertFalse(word.startswith("__"), (name, word))
            for word in own_functions(tree):
                self.assertTrue(word in DUNDERS or not word.startswith("__"), (name, word))
                self.assertNotIn(word, BARRED_NAMES, name)

    def test_only_known_builtins(self):
        for name, tree in parsed():
            for node in ast.walk(tree):
                if isinstance(node, ast.Name) and is_builtin(node.id):
                    self.assertIn(node.id, BUILTINS + ["classmethod"], (name, node.lineno))

    def test_only_known_methods(self):
        own = [word for _, tree in parsed() for word in own_functions(tree)]
        for name, tree in parsed():
            for node in ast.walk(tree):
                if isinstance(node, ast.Call) and isinstance(node.func, ast.Attribute):
                    self.assertIn(node.func.attr, own + METHODS, (name, node.lineno))

    def test_no_barred_words(self):
        for path in FILES:
            words = re.findall(r"\w+", code_text(path))
            for word in BARRED_WORDS:
                self.assertNotIn(word, words, path.name)
            for node in ast.walk(ast.parse(path.read_text(encoding="utf-8"))):
                if isinstance(node, ast.Constant) and isinstance(node.value, str):
                    self.assertNotIn("%", node.value, path.name)


if __name__ == "__main__":
    unittest.main()
