import ast
import unittest
from pathlib import Path

from tests.language import PACKAGE, faults, names_bound, own_methods

FOLDER = Path(__file__).resolve().parent.parent / PACKAGE


def sources():
    return {path.stem: path.read_text(encoding="utf-8") for path in sorted(FOLDER.glob("*.py"))}


def drawn_from(source):
    rows = [part for part in ast.parse(source).body if isinstance(part, ast.ImportFrom)]
    return {row.module.partition(".")[2]: [part.name for part in row.names] for row in rows}


class Package(unittest.TestCase):
    def test_files_have_plain_names_and_lie_alone(self):
        self.assertTrue((FOLDER / "__init__.py").is_file())
        for path in FOLDER.iterdir():
            if path.name != "__pycache__":
                self.assertRegex(path.name, r"\A([a-z][a-z0-9_]*|__init__)\.py\Z")

    def test_each_file_keeps_to_the_rules(self):
        own = {method for source in sources().values() for method in own_methods(source)}
        for name, source in sources().items():
            self.assertEqual(faults(name, source, own), [])

    def test_names_are_drawn_from_the_file_that_defines_them(self):
        defined = {}
        for name, source in sources().items():
            own = [part for part in ast.parse(source).body if not isinstance(part, ast.ImportFrom)]
            defined[name] = [bound for part in own for bound in names_bound(part)]
        for name, source in sources().items():
            for other, drawn in drawn_from(source).items():
                self.assertLessEqual(set(drawn), set(defined[other]), name)

    def test_no_two_files_draw_from_one_another(self):
        left = {name: set(drawn_from(source)) for name, source in sources().items()}
        while left:
            free = [name for name, drawn in left.items() if not drawn & set(left)]
            self.assertTrue(free, left)
            left = {name: drawn for name, drawn in left.items() if name not in free}

    def test_no_name_is_a_method_here_and_a_value_there(self):
        methods, values = set(), set()
        for source in sources().values():
            methods |= own_methods(source)
            for node in ast.walk(ast.parse(source)):
                if isinstance(node, ast.Attribute) and isinstance(node.ctx, ast.Store):
                    values.add(node.attr)
        self.assertEqual(methods & values, set())


class Checker(unittest.TestCase):
    def test_it_finds_what_is_out(self):
        for source in (
            "import sys\n", "from random import choice\n", "def f(*xs):\n    return xs\n", "x = 1.5\n",
            "def f(x):\n    \"\"\"Words.\"\"\"\n    return x\n", "def f(x):\n    a = b = x\n    return a\n",
            "def f(x):\n    a, b = x\n    return a\n", "def f(x):\n    return x / 2\n", "def f(n):\n    return 2 ** n\n",
            "def f(x):\n    return {y for y in x}\n", "def f(x):\n    assert x\n", "def f(x):\n    return hash(x)\n",
            "def f(id):\n    return id\n", "def f(x):\n    return x.title()\n", "x = 1\nx = 2\n", "def f(x):\n\treturn x\n",
            "# a type\n", "x = 'a%'\n", "def f(x, y):\n    return x is y\n", "def _f(x):\n    return x\n",
            "class A:\n    x = 1\n", "x = 1  #" + " " * 120 + "\n", "def f():\n" + "    f()\n" * 40,
            "def f(x):\n    y = range(x)\n    return y\n", "def f(x):\n    return 3 in range(x)\n",
            "def f(x):\n    for y in set(x):\n        f(y)\n", "def f(x):\n    y = set(x)\n    return 3 in y\n",
            "def f(x):\n    return x.split(sep='a')\n", "def f(x):\n    return int(x, base=2)\n",
            "from fourway.nets import net_of\n\n\ndef f(net_of):\n    return net_of\n",
            "def f(x):\n    return min(range(x), key=len)\n", "def f(x):\n    return len(x.items())\n",
            "def f(x):\n    return chr(x)\n", "def f(x):\n    for y in x:\n        pass\n    else:\n        f(y)\n",
        ):
            self.assertNotEqual(faults("sample", source), [], source)

    def test_it_lets_stand_what_is_in(self):
        for source in (
            '"""Words."""\n\nX = (1, "a")\n\n\ndef f(x):\n    return [y + 1 for y in x if y is not None]\n',
            "def f(x):\n    return sorted(set(x)) + list(range(3)) + [len(set(x) - set([1]))]\n",
            "def f(x):\n    return max(range(x)) if x in set([1]) else sorted(x, key=len)\n",
            "def f(x):\n    return sum([y for y in reversed(x)]) + max([y for z, y in enumerate(x)], default=0)\n",
        ):
            self.assertEqual(faults("sample", source), [], source)


if __name__ == "__main__":
    unittest.main()
