import ast
import doctest
import pathlib
import unittest

FOLDER = pathlib.Path(__file__).resolve().parent.parent / "oncecoin"

# By file: the functions and classes of the document's interface, with the names of their arguments; the ones behind
# "*" are passed by name.
INTERFACE = {
    "codec.py": {"is_plain": ["value"], "write_value": ["value"], "read_value": ["text"]},
    "forms.py": {"is_id": ["value"], "is_deed": ["value"], "is_key": ["value"], "first_value": ["key"],
                 "is_amount": ["key"]},
    "errors.py": {"ShopError": [], "InvalidDeed": ["deed"], "InvalidValue": ["given"], "InvalidText": ["text", "at"],
                  "InvalidNumber": ["number"], "NoKey": ["key"], "Twice": ["deed_id"], "NotGranted": ["deed_id"],
                  "NoLetter": ["number"], "NoActor": ["name"], "Busy": ["customer"], "Torn": ["text"],
                  "BadBook": ["texts"], "NoOrder": ["ids"]},
    "money.py": {"goods_value": ["pairs"], "tax_of": ["amount", "rate"], "total_of": ["value", "discount", "rate"],
                 "share": ["total", "part", "whole"], "shares": ["total", "parts"]},
    "scripts.py": {"next_step": ["deed_id", "deed", "told"]},
    "plain.py": {"PlainBook": ["*", "start"]},
    "sums.py": {"things": ["values", "item"], "coins": ["values"], "promised": ["values", "store", "item"],
                "owed": ["values"], "earned": ["values"], "faults": ["values"]},
    "counters.py": {"Counter": ["house", "*", "start"]},
    "lines.py": {"Line": []},
    "disks.py": {"Disk": ["text"]},
    "actors.py": {"Actor": ["name", "talks"]},
    "houses.py": {"House": ["name", "*", "start"]},
    "desks.py": {"Desk": ["name"]},
    "nets.py": {"Net": ["desks", "*", "start"]},
    "papers.py": {"edges": ["traces", "decisions"], "order_paper": ["traces", "decisions"],
                  "apart": ["traces", "decisions"], "paper_holds": ["paper", "traces", "decisions", "*", "start"],
                  "traces_of": ["net"], "decisions_of": ["net"], "paper_of": ["net"]},
    "audits.py": {"on_the_way": ["net"], "effective": ["net"], "audit": ["net"]},
    "statements.py": {"purse_told": ["rows", "coins"], "orders_told": ["customer", "rows"],
                      "rows_of": ["net", "customer"]},
}

# By file and class: the methods that stand in the class itself.
METHODS = {
    ("plain.py", "PlainBook"): {"do": ["deed_id", "deed"], "value": ["key"], "all_values": [], "__len__": [],
                                "__iter__": []},
    ("counters.py", "Counter"): {"ask": ["deed_id", "requests"], "end": ["deed_id", "writes"], "value": ["key"],
                                 "all_values": [], "waiting": [], "granted": [], "trace": []},
    ("lines.py", "Line"): {"send": ["body"], "take": ["number"], "acknowledge": ["number"], "sent": [], "got": [],
                           "__len__": [], "__iter__": []},
    ("disks.py", "Disk"): {"of_places": ["places"], "places": [], "write": ["text", "*", "cut"],
                           "close": ["text", "*", "cut"], "mend": [], "head": [], "records": [], "book": [],
                           "__len__": []},
    ("actors.py", "Actor"): {"handle": ["event", "*", "cut"], "fall": [], "close": ["*", "cut"]},
    ("houses.py", "House"): {"come_back": ["name", "places"], "state": [], "letters": [], "value": ["key"],
                             "all_values": [], "waiting": [], "trace": []},
    ("desks.py", "Desk"): {"come_back": ["name", "places"], "state": [], "letters": [], "decisions": [],
                           "open_deeds": []},
    ("nets.py", "Net"): {"ask": ["customer", "deed"], "open_deed": ["customer"], "answers": ["customer"],
                         "actor": ["name"], "post": ["name"], "deliver": ["k", "*", "cut"], "double": ["k"],
                         "lose": ["k"], "put_off": ["k"], "fall": ["name"], "close": ["name", "*", "cut"],
                         "blackout": [], "calm": [], "__len__": [], "__iter__": []},
}

# By file and class: what is read off its objects without a call.
PROPERTIES = {("lines.py", "Line"): ["got", "sent"], ("disks.py", "Disk"): ["book"]}


def files():
    return sorted(path for path in FOLDER.rglob("*") if "__pycache__" not in path.parts)


def arguments(node):
    """The names of the arguments of a function, or of the ones that a class is called with."""
    if isinstance(node, ast.FunctionDef):
        named = [argument.arg for argument in node.args.kwonlyargs]
        return [argument.arg for argument in node.args.args] + (["*"] + named if named else [])
    inits = [part for part in node.body if isinstance(part, ast.FunctionDef) and part.name == "__init__"]
    return arguments(inits[0])[1:] if inits else []


class PackageTest(unittest.TestCase):
    """What LANGUAGE.md and the interface ask of the files as such."""

    def test_the_folder_holds_python_files_alone(self):
        self.assertEqual([path for path in files() if path.suffix != ".py"], [])

    def test_sizes_and_characters(self):
        for path in files():
            text = path.read_text(encoding="utf-8")
            with self.subTest(path.name):
                self.assertLessEqual(len(text.splitlines()), 399)
                self.assertLessEqual(max(len(line) for line in text.splitlines()), 120)
                self.assertTrue(all(sign == "\n" or " " <= sign <= "~" for sign in text))

    def test_functions_are_short(self):
        for path in files():
            for node in ast.walk(ast.parse(path.read_text(encoding="utf-8"))):
                if isinstance(node, ast.FunctionDef):
                    with self.subTest(path.name, function=node.name):
                        self.assertLessEqual(node.end_lineno - node.lineno + 1, 40)

    def test_imports_are_from_the_package(self):
        for path in files():
            for node in ast.walk(ast.parse(path.read_text(encoding="utf-8"))):
                with self.subTest(path.name):
                    self.assertNotIsInstance(node, ast.Import)
                    if isinstance(node, ast.ImportFrom):
                        self.assertTrue(node.module.startswith("oncecoin."))

    def test_the_examples_of_the_readme(self):
        failed, tried = doctest.testfile(str(FOLDER.parent / "README.md"), module_relative=False)
        self.assertEqual(failed, 0)
        self.assertGreater(tried, 0)

    def test_the_interface_is_defined_where_it_is_listed(self):
        for name, listed in INTERFACE.items():
            body = ast.parse((FOLDER / name).read_text(encoding="utf-8")).body
            found = {node.name: arguments(node) for node in body if isinstance(node, (ast.FunctionDef, ast.ClassDef))}
            with self.subTest(name):
                self.assertEqual({word: found.get(word) for word in listed}, listed)

    def test_listed_properties(self):
        for (name, word), listed in PROPERTIES.items():
            body = ast.parse((FOLDER / name).read_text(encoding="utf-8")).body
            parts = [node for node in body if isinstance(node, ast.ClassDef) and node.name == word][0].body
            found = [node.name for node in parts if isinstance(node, ast.FunctionDef)
                     and "property" in [getattr(mark, "id", "") for mark in node.decorator_list]]
            with self.subTest(word):
                self.assertEqual(sorted(found), listed)

    def test_listed_methods_stand_in_their_class(self):
        for (name, word), listed in METHODS.items():
            body = ast.parse((FOLDER / name).read_text(encoding="utf-8")).body
            parts = [node for node in body if isinstance(node, ast.ClassDef) and node.name == word][0].body
            found = {node.name: arguments(node)[1:] for node in parts if isinstance(node, ast.FunctionDef)}
            with self.subTest(word):
                self.assertEqual({method: found.get(method) for method in listed}, listed)


if __name__ == "__main__":
    unittest.main()
