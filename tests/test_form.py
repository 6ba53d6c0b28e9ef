"""The form of the package: the interface stands where DOC.md lists it, and the files keep to LANGUAGE.md."""

import ast
import builtins
import importlib
import inspect
import pathlib
import unittest

ROOT = pathlib.Path(__file__).resolve().parent.parent / "forkrolls"
FILES = sorted(path for path in ROOT.rglob("*") if path.is_file() and path.suffix != ".pyc")

INTERFACE = {
    "forkrolls.cells.names": {"is_name": "(thing)", "is_value": "(thing)", "is_id": "(thing)"},
    "forkrolls.cells.places": {
        "is_place": "(thing)", "table_of": "(place)", "may_stand": "(place, thing)", "is_writes": "(thing)"},
    "forkrolls.cells.states": {
        "is_state": "(thing)", "done": "(state, writes)", "value_at": "(state, place)",
        "of_tables": "(state, tables)"},
    "forkrolls.cells.rolls": {
        "tables_of": "(state)", "columns_of": "(state, table)", "rows_of": "(state, table)",
        "row_of": "(state, table, key)"},
    "forkrolls.webs.webs": {"is_web": "(thing)", "knows_of": "(web, name)", "what_of": "(web, name)"},
    "forkrolls.webs.lots": {
        "is_lot": "(web, thing)", "whole_of": "(web)", "least_lot": "(web, names)", "tops_of": "(web, lot)",
        "together": "(web, lots)", "common": "(web, lots)", "seen": "(web, tables)",
        "lot_seen": "(web, lot, tables)"},
    "forkrolls.webs.standing": {"standing": "(web, lot)", "stands": "(web, lot, name)"},
    "forkrolls.webs.orders": {
        "is_order": "(web, lot, thing)", "order_of": "(web, lot)", "many_orders": "(web, lot, *, most=400)",
        "state_by": "(web, lot, order)"},
    "forkrolls.readings.lasts": {
        "lasts": "(web, lot, place)", "reading": "(web, lot, place)", "clashes": "(web, lot)"},
    "forkrolls.readings.papers": {
        "why": "(web, lot, place)", "shows_why": "(web, lot, place, thing)", "order_to": "(web, lot, place, name)"},
    "forkrolls.worlds.ways": {
        "ways_of": "(web, lot, *, most=200)", "is_way": "(web, lot, thing)", "order_by": "(web, lot, way)"},
    "forkrolls.worlds.worlds": {
        "worlds_of": "(web, lot, *, most=200)", "shows_worlds": "(web, lot, thing, *, most=200)"},
    "forkrolls.deeds.forms": {"is_deed": "(thing)"},
    "forkrolls.deeds.making": {
        "is_there": "(web, lot, place)", "made": "(web, lot, hand, branch, deed, *, number=None)"},
    "forkrolls.asks.questions": {"is_question": "(thing)", "is_row": "(thing)", "tables_in": "(question)"},
    "forkrolls.asks.answers": {"answer": "(state, question)"},
    "forkrolls.asks.whence": {
        "is_simple": "(thing)", "whence": "(state, question, row)", "shows_whence": "(state, question, row, thing)",
        "only_rows": "(state, rows)", "behind": "(web, lot, table, key)"},
    "forkrolls.asks.sure": {
        "sure": "(web, lot, question, *, most=200)", "perhaps": "(web, lot, question, *, most=200)",
        "order_with": "(web, lot, question, row, *, most=200)",
        "order_without": "(web, lot, question, row, *, most=200)"},
    "forkrolls.asks.rules": {
        "kept_or_broken": "(web, lot, rule, *, most=200)", "shows_rule": "(web, lot, rule, thing, *, most=200)",
        "kept_together": "(web, one, other, rule, *, most=200)"},
    "forkrolls.merges.changes": {
        "changes": "(web, one, other)", "root_of": "(web, name)", "touched": "(web, lot, within)"},
    "forkrolls.merges.sides": {"sides": "(web, one, other)"},
    "forkrolls.remnants.remnants": {
        "shaken": "(web, lots)", "remnant": "(web, lots)", "cut_lot": "(web, lot)"},
    "forkrolls.words.texts": {
        "place_text": "(place)", "read_place": "(text)", "deed_text": "(deed)", "read_deed": "(text)",
        "name_text": "(name)", "read_name": "(text)", "question_text": "(question)", "read_question": "(text)",
        "row_text": "(row)", "read_row": "(text)"},
}
CLASSES = {
    ("forkrolls.rights.rights", "Rights"): {
        "__init__": "(self)", "level": "(self, table, hand)", "used": "(self)", "use": "(self, hand, table)",
        "grant": "(self, hand, table, other, level)", "granted": "(self, table)", "seen": "(self, hand)",
        "need": "(self, web, lot, deed)", "view": "(self, hand, web, lot)", "__eq__": "(self, other)",
        "__len__": "(self)"},
    ("forkrolls.store.store", "Store"): {
        "__init__": "(self)", "fork": "(self, hand, name, at)", "mark": "(self, hand, name, at)",
        "do": "(self, hand, name, deed)", "pick": "(self, hand, name, at, deed)",
        "merge": "(self, hand, name, at, *, strict=False)", "grant": "(self, hand, table, other, level)",
        "share": "(self, hand, at, other)", "unshare": "(self, hand, at, other)", "drop": "(self, hand, at)",
        "prune": "(self, hand)", "names": "(self, hand)", "tables": "(self, hand)", "level": "(self, hand, table)",
        "view": "(self, hand, at)", "reading": "(self, hand, at, place)", "why": "(self, hand, at, place)",
        "ask": "(self, hand, at, question, *, most=200)", "behind": "(self, hand, at, table, key)",
        "many": "(self, rows)", "log": "(self)", "busy": "(self)", "__eq__": "(self, other)", "__len__": "(self)",
        "__str__": "(self)"},
    ("forkrolls.words.desk", "Desk"): {
        "__init__": "(self)", "say": "(self, row)", "many": "(self, rows)", "log": "(self)", "busy": "(self)"},
}
DUNDERS = ("__init__", "__eq__", "__len__", "__str__")

BUILTINS = {"len", "range", "enumerate", "zip", "min", "max", "sum", "abs", "sorted", "reversed", "int", "str", "bool",
            "list", "tuple", "dict", "set", "isinstance", "ord", "repr", "any", "all", "divmod", "ValueError",
            "LookupError"}
NODES = (ast.AsyncFunctionDef, ast.AsyncFor, ast.AsyncWith, ast.Await, ast.Import, ast.Div)


def barred_stars(tree, makers):
    """The lines at which a star stands in an index, in a set literal, or over a generator: all barred by L7."""
    found = set()
    for node in ast.walk(tree):
        if isinstance(node, ast.Subscript):
            found |= star_lines(node.slice)
        if isinstance(node, ast.Set):
            found |= star_lines(node)
        if isinstance(node, ast.Starred) and is_generator(node.value, makers):
            found.add(node.lineno)
    return sorted(found)


def star_lines(tree):
    return {node.lineno for node in ast.walk(tree) if isinstance(node, ast.Starred) and isinstance(node.ctx, ast.Load)}


def is_generator(node, makers):
    """Whether it is a generator expression, or the call of a function that yields."""
    if isinstance(node, ast.Call):
        return getattr(node.func, "id", getattr(node.func, "attr", "")) in makers
    return isinstance(node, ast.GeneratorExp)


def makers_in(trees):
    """The names of all functions that yield."""
    return {node.name for tree in trees for node in ast.walk(tree) if isinstance(node, ast.FunctionDef)
            and any(isinstance(each, (ast.Yield, ast.YieldFrom)) for each in ast.walk(node))}


class Interface(unittest.TestCase):
    def test_it_stands_where_it_is_listed(self):
        for module, listed in INTERFACE.items():
            for name, signature in listed.items():
                function = getattr(importlib.import_module(module), name)
                self.assertEqual(function.__module__, module)
                self.assertEqual(str(inspect.signature(function)), signature, name)


    def test_classes_stand_where_they_are_listed(self):
        for (module, name), listed in CLASSES.items():
            found = getattr(importlib.import_module(module), name)
            self.assertEqual(found.__module__, module)
            for method, signature in listed.items():
                self.assertIn(method, vars(found), name)
                self.assertEqual(str(inspect.signature(vars(found)[method])), signature, method)


class Form(unittest.TestCase):
    def test_classes(self):
        for path in FILES:
            for node in ast.walk(ast.parse(path.read_text())):
                if isinstance(node, ast.FunctionDef):
                    self.assertEqual(node.decorator_list, [], (path, node.name))
                    self.assertTrue(not node.name.startswith("__") or node.name in DUNDERS, (path, node.name))
                if isinstance(node, ast.ClassDef):
                    self.assertTrue(ast.get_docstring(node), (path, node.name))
                    methods = {each.name for each in node.body if isinstance(each, ast.FunctionDef)}
                    kept = {each.attr for each in ast.walk(node)
                            if isinstance(each, ast.Attribute) and isinstance(each.ctx, ast.Store)}
                    self.assertEqual(sorted(methods & kept), [], path)
                if isinstance(node, ast.Try):
                    self.assertEqual(node.handlers, [], path)

    def test_nothing_but_files_of_python(self):
        self.assertLessEqual(len(FILES), 100)
        for path in FILES:
            self.assertEqual(path.suffix, ".py", path)
            self.assertTrue((path.parent / "__init__.py").is_file(), path)

    def test_sizes_and_signs(self):
        for path in FILES:
            lines = path.read_bytes().decode("ascii").split("\n")
            self.assertLess(len(lines), 400, path)
            for line in lines:
                self.assertTrue(len(line) <= 120 and (line == "" or line.isprintable()), (path, line))

    def test_functions_are_small_and_what_stands_in_them_is_allowed(self):
        for path in FILES:
            for node in ast.walk(ast.parse(path.read_text())):
                self.assertNotIsInstance(node, NODES, path)
                if isinstance(node, ast.FunctionDef):
                    self.assertLessEqual(node.end_lineno - node.lineno + 1, 40, (path, node.name))
                    self.assertTrue(node.name.startswith("_") or ast.get_docstring(node), (path, node.name))

    def test_stars_stand_where_they_may(self):
        trees = {path: ast.parse(path.read_text()) for path in FILES}
        makers = makers_in(trees.values())
        for path, tree in trees.items():
            self.assertEqual(barred_stars(tree, makers), [], path)

    def test_barred_stars_are_found(self):
        maker = "def steps(xs):\n    yield from xs\n"
        makers = makers_in([ast.parse(maker)])
        for row in ("d[(*at, 1)] = True", "d[*at, 1] = True", "x = d[(*at, 1)]", "del box.d[(*at, 1)]",
                    "d[(*at, 1)] += 1", "x = d[k, (*at, 1)]", "x = d[len([*at, 1])]", "x = d[0][(*at, 1)].y",
                    "x = xs[:len([*at])]", "x = [d[(*at, k)] for k in xs]", "x = {*xs}", "x = k in {(*at, 1)}",
                    "x = [*(y for y in xs)]", "x = (*steps(xs), 1)", "x = (*box.steps(xs), 1)"):
            self.assertEqual(barred_stars(ast.parse("x = 1\n" + row), makers), [2], row)

    def test_other_stars_are_let_stand(self):
        for row in ("k = (*at, 1)\nd[k] = True", "d.pop((*at, 1), None)", "x = (*at, 1) in d", "x = [*xs, 1][0]",
                    "x = [(*k, d[k]) for k in xs]", "k, *x = d[0]", "x = {(*at, 1): True}", "x = (*d[k], 1)",
                    "x = (*sorted(xs), 1)", "x = max(*xs)"):
            self.assertEqual(barred_stars(ast.parse(row), {"steps"}), [], row)

    def test_keys_to_sort_by(self):
        for path in FILES:
            for node in ast.walk(ast.parse(path.read_text())):
                if isinstance(node, ast.Call) and getattr(node.func, "id", "") in ("sorted", "min", "max"):
                    keys = [each.value for each in node.keywords if each.arg == "key"]
                    self.assertTrue(all(isinstance(each, ast.Lambda) for each in keys), (path, node.lineno))

    def test_imports_name_the_file_that_defines(self):
        for path in FILES:
            for node in ast.walk(ast.parse(path.read_text())):
                if isinstance(node, ast.ImportFrom):
                    self.assertTrue(node.module.startswith("forkrolls."), path)
                    module = importlib.import_module(node.module)
                    for part in node.names:
                        self.assertIsNone(part.asname)
                        found = getattr(module, part.name)
                        self.assertEqual(getattr(found, "__module__", node.module), node.module, part.name)

    def test_names(self):
        for path in FILES:
            tree = ast.parse(path.read_text())
            bound = {node.arg for node in ast.walk(tree) if isinstance(node, ast.arg)}
            bound |= {node.name for node in ast.walk(tree) if isinstance(node, (ast.FunctionDef, ast.ClassDef))}
            bound |= {node.id for node in ast.walk(tree)
                      if isinstance(node, ast.Name) and isinstance(node.ctx, ast.Store)}
            self.assertEqual(sorted(bound & set(dir(builtins))), [], path)
            brought = {part.name for node in ast.walk(tree) if isinstance(node, ast.ImportFrom) for part in node.names}
            read = {node.id for node in ast.walk(tree) if isinstance(node, ast.Name)}
            self.assertEqual(sorted(read - bound - brought - BUILTINS), [], path)
            self.assertEqual(sorted(brought - read), [], path)
            self.assertEqual(sorted(brought & bound), [], path)


if __name__ == "__main__":
    unittest.main()
