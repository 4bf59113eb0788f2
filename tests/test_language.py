"""The files of the package: the sizes of L10 in LANGUAGE.md, some other rules of it, and the interface."""

import ast
import builtins
import pathlib
import re
import unittest

PACKAGE = pathlib.Path(__file__).resolve().parent.parent / "changewhile"

INTERFACE = {
    "errors": {"ChangeError", "NoText", "NotRight", "Stuck", "NoFit", "NoLead", "NotNow"},
    "kinds": {"is_name", "is_kind", "kind_text", "read_kind", "names_in"},
    "values": {"is_value", "is_plain", "is_of", "alike_values", "value_text", "read_value"},
    "terms": {"is_term", "term_text", "read_term", "parts_of", "with_names"},
    "rows": {"is_row", "row_text", "read_row", "next_rows"},
    "programs": {"is_part", "is_program", "marks_of"},
    "programtexts": {"program_text", "read_program"},
    "kinding": {"kind_of", "is_there", "is_right", "leaves"},
    "papers": {"grown", "wrong_rows", "reads", "papers_of"},
    "reckoning": {"worth"},
    "states": {"begun", "stepped", "run_on", "fits"},
    "places": {"places_at", "chain_to"},
    "changes": {"is_change", "changed"},
    "changetexts": {"change_text", "read_change"},
    "looking": {"look", "reads_entry"},
    "leading": {"led"},
    "lives": {"Live"},
    "backs": {"back_of", "undoes", "apart"},
    "forms": {"alike"},
    "pairings": {"reads_pairing", "stays_paired"},
    "pairfinding": {"find_pairing"},
}

# Each function and method of the interface with its arguments, where there are some, as in "told=1".
ARGUMENTS = {
    "kinds": ["is_name(thing)", "is_kind(thing)", "kind_text(kind)", "read_kind(text)", "names_in(kind)"],
    "values": ["is_value(thing)", "is_plain(thing)", "is_of(kind, value, records)", "alike_values(one, other)",
               "value_text(value)", "read_value(text)"],
    "terms": ["is_term(thing)", "term_text(term)", "read_term(text)", "parts_of(term)", "with_names(term, terms)"],
    "rows": ["is_row(thing)", "row_text(row)", "read_row(text)", "next_rows(rows, r)"],
    "programs": ["is_part(thing)", "is_program(thing)", "marks_of(program)"],
    "programtexts": ["program_text(program)", "read_program(text)"],
    "kinding": ["kind_of(term, holding, program)", "is_there(kind, program)", "is_right(row, holding, program, part)",
                "leaves(row, holding, program)"],
    "papers": ["grown(program, part, row, holding)", "wrong_rows(program, part, paper)", "reads(program, part, paper)",
               "papers_of(program)"],
    "reckoning": ["worth(term, held, boxes, records)"],
    "states": ["begun(program, name, values)", "stepped(program, state)", "run_on(program, state, many)",
               "fits(program, state, papers)"],
    "places": ["places_at(program, start, mark)", "chain_to(program, start, mark, place)"],
    "changes": ["is_change(thing)", "changed(program, change)"],
    "changetexts": ["change_text(change)", "read_change(text)"],
    "looking": ["look(program, start, change)", "reads_entry(program, start, change, mark, papers)"],
    "leading": ["led(program, change, state)"],
    "lives": ["Live.__init__(self, program, start, values)", "Live.program(self)", "Live.state(self)", "Live.mark(self)",
              "Live.step(self)", "Live.look(self, change)", "Live.enter(self, change, way='once')", "Live.asleep(self)",
              "Live.old(self)", "Live.wait(self, change, way='once')", "Live.waiting(self)", "Live.dropped(self)"],
    "backs": ["back_of(program, change, kindleads, boxleads)", "undoes(program, change, back, state)",
              "apart(one, other)"],
    "forms": ["alike(one, other)"],
    "pairings": ["reads_pairing(program, change, pairing)",
                 "stays_paired(program, change, pairing, part, own, rest)"],
    "pairfinding": ["find_pairing(program, change)"],
}

# The builtins of L8, without those that have rules of their own.
BUILTINS = {"len", "range", "enumerate", "zip", "min", "max", "sum", "abs", "sorted", "reversed", "int", "str", "bool",
            "list", "tuple", "dict", "set", "isinstance", "ord", "repr", "any", "all", "divmod", "Exception",
            "ValueError", "TypeError", "KeyError", "IndexError", "LookupError", "ZeroDivisionError"}

BARRED_WORDS = {"register", "mro", "elements", "open", "input", "law", "version_info", "type", "id", "hash", "next",
                "map", "filter", "vars", "dir", "eval", "exec", "compile", "help", "exit", "super", "sys", "os"}

# The beginnings and the names that L12 bars, the latter also with digits or underscores behind them.
BARRED_BEGINNINGS = ("_pe_", "_dcw_", "_enum_", "_cm_", "_twin_re_", "_lay_", "_law_", "_stub_", "_sre", "_WallAttr")
BARRED_ALONE = ("_cold", "_tuplegetter", "_outside", "_record", "_written_out", "_member_names")
BARRED_ANYWHERE = ("_wall", "_WallAttr")

# The double-underscore methods of L5, without the operators (here is none), and the other such names of L5 and L8.
DOUBLE_UNDERSCORES = {"__init__", "__eq__", "__repr__", "__str__", "__len__", "__enter__", "__exit__", "__call__",
                      "__iter__", "__all__", "__version__", "__slots__"}

BARRED_NODES = (ast.Global, ast.AsyncFunctionDef, ast.AsyncFor, ast.AsyncWith, ast.Await, ast.Import, ast.Div)


def files():
    return sorted(path for path in PACKAGE.rglob("*") if "__pycache__" not in path.parts)


def trees():
    return [(path, ast.parse(path.read_text(encoding="utf-8"))) for path in files()]


class Sizes(unittest.TestCase):
    def test_there_are_only_files_of_python(self):
        self.assertTrue(files())
        for path in files():
            self.assertTrue(path.is_file() and path.suffix == ".py", path)
            self.assertEqual(path.name, path.name.lower())

    def test_files_have_at_most_399_lines(self):
        for path in files():
            self.assertLessEqual(len(path.read_text(encoding="utf-8").split("\n")), 399, path)

    def test_lines_have_at_most_120_characters(self):
        for path in files():
            for number, line in enumerate(path.read_text(encoding="utf-8").split("\n"), start=1):
                self.assertLessEqual(len(line), 120, (path, number))

    def test_functions_have_at_most_40_lines(self):
        for path, tree in trees():
            for node in ast.walk(tree):
                if isinstance(node, (ast.FunctionDef, ast.Lambda)):
                    self.assertLessEqual(node.end_lineno - node.lineno + 1, 40, (path, node.lineno))

    def test_characters(self):
        for path in files():
            for code in path.read_bytes():
                self.assertTrue(code == 10 or 32 <= code <= 126, (path, code))


class Language(unittest.TestCase):
    def test_imports_are_from_the_package_by_full_names(self):
        for path, tree in trees():
            for node in ast.walk(tree):
                self.assertNotIsInstance(node, ast.Import, path)
                if isinstance(node, ast.ImportFrom):
                    self.assertEqual(node.level, 0, path)
                    self.assertTrue(node.module.startswith("changewhile."), path)
                    self.assertIn(node, tree.body, path)
                    for alias in node.names:
                        self.assertIsNone(alias.asname, path)
                        self.assertIn(alias.name, defined_in(node.module), (path, alias.name))

    def test_no_two_files_import_from_each_other(self):
        behind = {path.stem: {node.module.split(".")[1] for node in ast.walk(tree) if isinstance(node, ast.ImportFrom)}
                  for path, tree in trees()}
        while behind:
            ready = [name for name, needs in behind.items() if not needs & set(behind)]
            self.assertTrue(ready, behind)
            for name in ready:
                del behind[name]

    def test_no_barred_statements(self):
        for path, tree in trees():
            for node in ast.walk(tree):
                self.assertNotIsInstance(node, BARRED_NODES, (path, getattr(node, "lineno", 0)))

    def test_no_barred_names(self):
        for path, tree in trees():
            for node in ast.walk(tree):
                for name in names_of(node):
                    self.assertNotIn(name, BARRED_WORDS, path)

    def test_names_are_plain(self):
        for path, tree in trees():
            names = all_names(tree)
            # So that the test surely sees what it is about.
            self.assertTrue(names or path.name == "__init__.py", path)
            for name in names:
                self.assertTrue(is_plain_name(name), (path, name))
            for node in ast.walk(tree):
                if isinstance(node, ast.ClassDef):
                    self.assertFalse(node.name.startswith("_"), (path, node.name))
                if isinstance(node, ast.Name) and node.id == "_":
                    self.assertNotIsInstance(node.ctx, ast.Load, (path, node.lineno))

    def test_only_attributes_and_methods_are_called_walls(self):
        for path, tree in trees():
            names = [node.name for node in tree.body if isinstance(node, (ast.FunctionDef, ast.ClassDef))]
            names.extend(node.id for node in ast.walk(tree) if isinstance(node, ast.Name))
            names.extend(node.arg for node in ast.walk(tree) if isinstance(node, ast.arg))
            for name in names:
                self.assertFalse(name.startswith("_wall"), (path, name))

    def test_which_names_are_plain(self):
        for name in ("_", "x", "told", "_lay", "_layings", "_laying_out", "_lawful", "_records", "_record_led",
                     "_coldest", "__init__", "_X", "n2", "lay_all", "Live"):
            self.assertTrue(is_plain_name(name), name)
        for name in ("_lay_all", "_lay_", "_lay_to_sleep", "_pe_x", "_dcw_x", "_enum_x", "_cm_x", "_twin_re_x",
                     "_law_x", "_stub_x", "_sre", "_srex", "_WallAttr", "_WallAttrs", "_cold", "_cold2", "_record_",
                     "_record_1", "_tuplegetter", "_outside", "_written_out", "_member_names", "_2", "__x", "__add",
                     "__hash__", "caf\u00e9"):
            self.assertFalse(is_plain_name(name), name)

    def test_all_names_are_seen(self):
        tree = ast.parse("from a.b import c as w\ndef d(e, *f, **g):\n    h.i = j(k=1)\n    try:\n        pass\n"
                         "    except l as m:\n        pass\n    def n():\n        nonlocal o\n"
                         "    match p:\n        case [q, *r]:\n            pass\n        case s(t=u):\n"
                         "            pass\nclass v:\n    pass\n")
        self.assertEqual(sorted(all_names(tree)), list("abcdefghijklmnopqrstuvw"))

    def test_no_barred_words_anywhere(self):
        for path in files():
            words = re.findall("[A-Za-z0-9_]+", path.read_text(encoding="utf-8"))
            for word in BARRED_ANYWHERE:
                self.assertNotIn(word, words, path)

    def test_builtins(self):
        for path, tree in trees():
            for node in ast.walk(tree):
                if isinstance(node, ast.Name) and node.id in vars(builtins):
                    self.assertIn(node.id, BUILTINS, (path, node.lineno))
                    self.assertIsInstance(node.ctx, ast.Load, (path, node.lineno))
                if isinstance(node, (ast.arg, ast.FunctionDef, ast.ClassDef)):
                    name = node.arg if isinstance(node, ast.arg) else node.name
                    self.assertNotIn(name, vars(builtins), path)

    def test_no_import_or_class_gives_its_name_to_anything_else(self):
        for path, tree in trees():
            taken = {node.name for node in tree.body if isinstance(node, ast.ClassDef)}
            taken.update(alias.name for node in tree.body if isinstance(node, ast.ImportFrom) for alias in node.names)
            for node in ast.walk(tree):
                if isinstance(node, ast.arg):
                    self.assertNotIn(node.arg, taken, (path, node.lineno))
                if isinstance(node, ast.Name) and isinstance(node.ctx, ast.Store):
                    self.assertNotIn(node.id, taken, (path, node.lineno))

    def test_imports_are_used(self):
        for path, tree in trees():
            used = {node.id for node in ast.walk(tree) if isinstance(node, ast.Name)}
            for node in tree.body:
                if isinstance(node, ast.ImportFrom):
                    self.assertLessEqual({alias.name for alias in node.names}, used, path)

    def test_module_level_has_only_what_it_may(self):
        for path, tree in trees():
            for node in tree.body:
                self.assertIsInstance(node, (ast.Expr, ast.ImportFrom, ast.FunctionDef, ast.ClassDef, ast.Assign), path)
                if isinstance(node, ast.Expr):
                    self.assertIsInstance(node.value, ast.Constant, path)


class Interface(unittest.TestCase):
    def test_each_name_is_defined_in_its_file(self):
        for name, wanted in INTERFACE.items():
            self.assertLessEqual(wanted, defined_in("changewhile." + name))

    def test_each_has_its_arguments(self):
        self.assertEqual(sorted(ARGUMENTS), sorted(set(INTERFACE) - {"errors"}))
        for name, wanted in ARGUMENTS.items():
            self.assertLessEqual({one.split("(")[0].split(".")[0] for one in wanted}, INTERFACE[name])
            self.assertLessEqual(set(wanted), set(heads_in(name)), name)


def defined_in(module):
    """The names that a file of the package binds itself."""
    tree = ast.parse((PACKAGE / (module.split(".")[1] + ".py")).read_text(encoding="utf-8"))
    found = {node.name for node in tree.body if isinstance(node, (ast.FunctionDef, ast.ClassDef))}
    found.update(target.id for node in tree.body if isinstance(node, ast.Assign) for target in node.targets)
    return found


def heads_in(name):
    """The heads of the functions of a file, and of its classes' methods."""
    tree = ast.parse((PACKAGE / (name + ".py")).read_text(encoding="utf-8"))
    heads = []
    for node in tree.body:
        if isinstance(node, ast.FunctionDef):
            heads.append(node.name + "(" + ast.unparse(node.args) + ")")
        if isinstance(node, ast.ClassDef):
            heads.extend(node.name + "." + one.name + "(" + ast.unparse(one.args) + ")"
                         for one in node.body if isinstance(one, ast.FunctionDef))
    return heads


def is_plain_name(name):
    """Whether a name is one that L12 lets stand, be it a variable's, an attribute's or anything else's."""
    if name == "_" or name in DOUBLE_UNDERSCORES:
        return True
    if not re.fullmatch("_?[A-Za-z][A-Za-z0-9_]*", name) or name.startswith(BARRED_BEGINNINGS):
        return False
    return not any(re.fullmatch(one + "[0-9_]*", name) for one in BARRED_ALONE)


def all_names(tree):
    """A list of all names in a tree: those that are given or read, and those of keywords, imports and files."""
    found = []
    for node in ast.walk(tree):
        for field in ("id", "attr", "arg", "name", "asname", "names", "module", "rest", "kwd_attrs"):
            told = getattr(node, field, None)
            for one in told if isinstance(told, list) else [told]:
                if isinstance(one, str):
                    found.extend(one.split("."))
    return found


def names_of(node):
    """The names that a node itself gives or reads."""
    if isinstance(node, ast.Name):
        return [node.id]
    if isinstance(node, ast.Attribute):
        return [node.attr]
    if isinstance(node, ast.arg):
        return [node.arg]
    if isinstance(node, (ast.FunctionDef, ast.ClassDef)):
        return [node.name]
    if isinstance(node, ast.Constant) and isinstance(node.value, str):
        return [node.value]
    return []


if __name__ == "__main__":
    unittest.main()
