"""The rules of LANGUAGE.md that a plain reading of the files can check, and the names of the interface."""

import ast
import builtins
import re
import unittest
from pathlib import Path

PACKAGE = Path(__file__).resolve().parent.parent / "onecopy"

LIBRARY = {
    "heapq": {"heappush", "heappop", "heapify", "heapreplace", "heappushpop"},
    "math": {"gcd", "lcm", "isqrt", "comb", "perm", "factorial"},
    "itertools": {"product", "combinations", "permutations", "chain", "accumulate", "pairwise", "islice",
                  "zip_longest"},
    "collections": {"defaultdict", "deque"},
}

CALLED = {
    "len", "range", "enumerate", "zip", "min", "max", "sum", "abs", "sorted", "reversed", "int", "str", "bool",
    "list", "tuple", "dict", "set", "isinstance", "ord", "repr", "any", "all", "divmod", "iter", "next", "super",
    "TypeError",
}

BARRED_NODES = (
    ast.GeneratorExp, ast.Global, ast.AsyncFunctionDef, ast.AsyncFor, ast.AsyncWith, ast.Await, ast.Div,
    ast.MatMult, ast.Import, ast.TryStar,
)

INTERFACE = {
    "webs": {
        "Web": ["arrows", "holders", "targets", "degree", "inner", "parts", "is_forest", "is_settled", "path",
                "ring", "of_parents", "__eq__", "__contains__"],
    },
    "standings": {
        "Standing": ["__eq__", "fresh", "blanks", "blank_of", "used", "is_short", "after", "answers"],
    },
    "dealings": {"is_dealing": [], "deal": [], "holds_short": [], "trim": [], "slack": []},
    "forests": {"tree_parents": [], "debts": [], "deepest": []},
    "counts": {"count_dealable": [], "rank_of": [], "nth_dealable": []},
    "ledger": {
        "Ledger": ["enter_page", "leave_page", "set_pointer", "drop_pointer", "use_line", "blank_of", "owner_of",
                   "page_list", "arrows", "as_standing"],
    },
    "keeper": {"Keeper": ["standing", "owners", "use_line"], "Recorder": ["use_line", "rows"], "copies_bound": []},
    "foe": {
        "Foe": ["standing", "has_won", "present_lot", "next_page", "bound", "take_reply"], "verdict": [],
    },
    "game": {"Game": ["value", "keepable", "safe_answers"]},
    "cells": {"Disk": ["__len__", "cells", "read_cell", "write_cell", "allowance", "allow"]},
    "chest": {
        "Chest": ["begun", "today", "days", "commit_day", "next_address", "live", "blank_of", "entry_list",
                  "entry_address", "look", "stored", "reached"],
    },
    "engine": {
        "Engine": ["resumed", "today", "standing", "days", "entries", "write_page", "read", "follow", "trail",
                   "history", "changed", "copy_days", "fork"],
    },
    "stretches": {"Stretch": ["lift", "__add__", "__eq__", "is_keepable"], "parting": []},
    "chains": {
        "heights": [], "is_keepable_chain": [], "chain_answer": [], "attack_row": [], "count_chains": [],
    },
    "tables": {
        "TableTree": ["__eq__", "parents", "own", "weights", "children", "things", "weight", "is_due", "is_keepable",
                      "as_standing", "arrive"],
    },
    "divider": {
        "Divider": ["tree", "take_arrival"],
        "Crowd": ["tree", "has_won", "present_lot", "next_table", "take_division"],
        "cut_of": [],
    },
    "views": {
        "View": ["__getitem__", "__contains__", "__len__", "__iter__", "scan", "next_key", "trail", "shape"],
    },
    "store": {
        "Store": ["resumed", "today", "standing", "days", "put_key", "drop_key", "get", "at", "changed", "history"],
    },
    "holds": {"Holds": ["hold_day", "release_day", "count_of", "held", "sweep_copies"], "survey": []},
    "recovery": {"mend": [], "recover_engine": [], "recover_store": []},
    "audit": {"judge_log": [], "least_start": []},
    "desk": {"Desk": ["run_line", "depth"]},
}


def files():
    """The files of the package with their texts and their trees."""
    found = []
    for path in sorted(PACKAGE.glob("*.py")):
        text = path.read_text(encoding="utf-8")
        found.append((path.name, text, ast.parse(text)))
    return found


def nodes(tree, *kinds):
    return [node for node in ast.walk(tree) if isinstance(node, kinds)]


class LanguageTest(unittest.TestCase):
    def test_nothing_but_python_files(self):
        others = [path.name for path in PACKAGE.iterdir() if path.suffix != ".py" and path.name != "__pycache__"]
        self.assertEqual(others, [])
        self.assertTrue((PACKAGE / "__init__.py").exists())

    def test_characters_and_sizes(self):
        for name, text, _ in files():
            lines = text.split("\n")
            self.assertLessEqual(len(lines) - 1, 399, name)
            for at, line in enumerate(lines, 1):
                self.assertLessEqual(len(line), 120, f"{name}:{at}")
                self.assertTrue(all(" " <= sign <= "~" for sign in line), f"{name}:{at}")

    def test_functions_are_small(self):
        for name, _, tree in files():
            for node in nodes(tree, ast.FunctionDef):
                self.assertLessEqual(node.end_lineno - node.lineno + 1, 40, f"{name} {node.name}")

    def test_barred_statements(self):
        for name, _, tree in files():
            for node in nodes(tree, *BARRED_NODES):
                self.fail(f"{name}:{node.lineno} {ast.dump(node)[:80]}")
            for node in nodes(tree, ast.Constant):
                self.assertNotIsInstance(node.value, (float, complex), f"{name}:{node.lineno}")

    def test_imports(self):
        own = {f"onecopy.{name[:-3]}" for name, _, _ in files()}
        for name, _, tree in files():
            for node in nodes(tree, ast.ImportFrom):
                self.assertIn(node, tree.body, name)
                self.assertEqual(node.level, 0, name)
                words = {alias.name for alias in node.names}
                if node.module in own:
                    where = ast.parse((PACKAGE / f"{node.module[8:]}.py").read_text(encoding="utf-8"))
                    self.assertLessEqual(words, self.defined(where), name)
                else:
                    self.assertLessEqual(words, LIBRARY.get(node.module, set()), f"{name} {node.module}")

    def defined(self, tree):
        names = {node.name for node in tree.body if isinstance(node, (ast.FunctionDef, ast.ClassDef))}
        for node in tree.body:
            if isinstance(node, ast.Assign):
                names |= {target.id for target in node.targets}
        return names

    def test_imports_make_no_ring(self):
        needs = {}
        for name, _, tree in files():
            modules = [node.module for node in nodes(tree, ast.ImportFrom)]
            needs[f"onecopy.{name[:-3]}"] = {module for module in modules if module.startswith("onecopy.")}
        while needs:
            free = [module for module, wanted in needs.items() if not wanted & set(needs)]
            self.assertTrue(free, f"a ring of imports: {sorted(needs)}")
            for module in free:
                del needs[module]

    def test_module_level(self):
        allowed = (ast.ImportFrom, ast.FunctionDef, ast.ClassDef, ast.Assign)
        for name, _, tree in files():
            for at, node in enumerate(tree.body):
                is_docstring = at == 0 and isinstance(node, ast.Expr) and isinstance(node.value, ast.Constant)
                self.assertTrue(is_docstring or isinstance(node, allowed), f"{name}:{node.lineno}")

    def test_decorators(self):
        for name, _, tree in files():
            for node in nodes(tree, ast.FunctionDef, ast.ClassDef):
                for decorator in node.decorator_list:
                    plain = isinstance(decorator, ast.Name) and decorator.id in {
                        "property", "classmethod", "staticmethod"}
                    setter = isinstance(decorator, ast.Attribute) and decorator.attr == "setter"
                    self.assertTrue(plain or setter, f"{name} {node.name}")

    def test_builtins(self):
        for name, _, tree in files():
            stored = [node.id for node in nodes(tree, ast.Name) if isinstance(node.ctx, ast.Store)]
            stored += [node.arg for node in nodes(tree, ast.arg)]
            stored += [node.name for node in tree.body if isinstance(node, (ast.FunctionDef, ast.ClassDef))]
            self.assertEqual([word for word in stored if hasattr(builtins, word)], [], name)
            for node in nodes(tree, ast.Call):
                if isinstance(node.func, ast.Name) and hasattr(builtins, node.func.id):
                    self.assertIn(node.func.id, CALLED, f"{name}:{node.lineno}")

    def test_barred_names(self):
        barred = re.compile(
            r"_(wall|pe_|dcw_|enum_|cm_|twin_re_|lay_|law_|stub_|sre|WallAttr).*"
            r"|(_cold|_tuplegetter|_outside|_record|_written_out|_member_names)[0-9_]*"
            r"|register|mro|elements|open|input|law|version_info|with_traceback|add_note")
        for name, _, tree in files():
            words = [node.attr for node in nodes(tree, ast.Attribute)] + [node.id for node in nodes(tree, ast.Name)]
            words += [node.name for node in nodes(tree, ast.FunctionDef, ast.ClassDef)]
            words += [node.arg for node in nodes(tree, ast.arg, ast.keyword)]
            self.assertEqual([word for word in words if barred.fullmatch(word)], [], name)

    def test_no_name_of_a_class_or_an_import_is_used_anew(self):
        for name, _, tree in files():
            taken = {alias.name for node in nodes(tree, ast.ImportFrom) for alias in node.names}
            taken |= {node.name for node in nodes(tree, ast.ClassDef)}
            stored = {node.id for node in nodes(tree, ast.Name) if isinstance(node.ctx, ast.Store)}
            stored |= {node.arg for node in nodes(tree, ast.arg)}
            self.assertEqual(taken & stored, set(), name)

    def test_no_name_is_a_method_and_an_attribute(self):
        methods, attributes = set(), set()
        for _, _, tree in files():
            for node in nodes(tree, ast.ClassDef):
                methods |= {row.name for row in node.body if isinstance(row, ast.FunctionDef)
                            and not any(isinstance(one, ast.Attribute) for one in row.decorator_list)}
            attributes |= {node.attr for node in nodes(tree, ast.Attribute) if isinstance(node.ctx, ast.Store)}
        self.assertEqual(methods & attributes, {"allowance"})

    def test_kept_zips(self):
        for name, _, tree in files():
            for node in nodes(tree, ast.Assign):
                called = isinstance(node.value, ast.Call) and isinstance(node.value.func, ast.Name)
                if called:
                    self.assertNotIn(node.value.func.id, {"zip", "enumerate", "reversed", "range"}, name)

    def test_sort_is_sorted(self):
        for name, _, tree in files():
            for node in nodes(tree, ast.Attribute):
                self.assertNotEqual(node.attr, "sort", f"{name}:{node.lineno}")


OPERATORS = {"__eq__", "__len__", "__contains__", "__getitem__", "__add__"}
MODIFYING = {"append", "pop", "extend", "clear", "insert", "remove", "reverse", "setdefault", "update", "add", "discard"}


def is_new(value):
    """Whether the value is surely a new list, dict or set."""
    if isinstance(value, ast.Call) and isinstance(value.func, ast.Name):
        return value.func.id in {"list", "dict", "set", "sorted"}
    if isinstance(value, ast.BinOp):
        return is_new(value.left) or is_new(value.right)
    return isinstance(value, (ast.List, ast.Dict, ast.ListComp, ast.DictComp))


def base_name(node):
    """The name in front of the indexes, or None."""
    while isinstance(node, ast.Subscript):
        node = node.value
    return node.id if isinstance(node, ast.Name) else None


class OperatorsTest(unittest.TestCase):
    """What an operator or a property runs, followed by the names of the functions and methods, changes nothing."""

    def setUp(self):
        self.known, self.starts = {}, []
        for name, _, tree in files():
            for node in tree.body:
                if isinstance(node, ast.FunctionDef):
                    self.known.setdefault(node.name, []).append((name, node))
                elif isinstance(node, ast.ClassDef):
                    self.take_class(name, node)

    def take_class(self, name, node):
        for method in [row for row in node.body if isinstance(row, ast.FunctionDef)]:
            words = {ast.unparse(one) for one in method.decorator_list}
            if method.name == "__init__":
                self.known.setdefault(node.name, []).append((name, method))
            elif not any(word.endswith(".setter") for word in words):
                self.known.setdefault(method.name, []).append((name, method))
            if method.name in OPERATORS or "property" in words:
                self.starts.append((name, method))

    def test_they_change_nothing(self):
        reached, waiting = [], list(self.starts)
        while waiting:
            name, function = waiting.pop()
            if (name, function) not in reached:
                reached.append((name, function))
                self.check(name, function)
                for node in nodes(function, ast.Call):
                    word = node.func.id if isinstance(node.func, ast.Name) else getattr(node.func, "attr", None)
                    waiting += self.known.get(word, [])
        self.assertGreater(len(reached), 50)

    def check(self, name, function):
        assigned = {}
        for node in nodes(function, ast.Assign):
            for target in node.targets:
                if isinstance(target, ast.Name):
                    assigned.setdefault(target.id, []).append(is_new(node.value))
        own = {word for word, values in assigned.items() if all(values)} - {one.arg for one in function.args.args}
        for node in ast.walk(function):
            where = f"{name}:{getattr(node, 'lineno', 0)} {function.name}"
            self.assertNotIsInstance(node, (ast.Yield, ast.YieldFrom, ast.Nonlocal, ast.AugAssign), where)
            if isinstance(node, ast.Attribute) and not isinstance(node.ctx, ast.Load):
                # An operator may fill in an object that it has created itself.
                self.assertIn(ast.unparse(node.value), ["self"] if function.name == "__init__" else ["joined"], where)
            if isinstance(node, ast.Subscript) and not isinstance(node.ctx, ast.Load):
                self.assertIn(base_name(node), own, where)
            if isinstance(node, ast.Call) and isinstance(node.func, ast.Attribute) and node.func.attr in MODIFYING:
                self.assertIn(base_name(node.func.value), own, where)

    def test_indexed_classes(self):
        for name, text, tree in files():
            for word in ["(type)", "Meta", "metaclass="]:
                self.assertNotIn(word, text, name)
            words = [node.attr for node in nodes(tree, ast.Attribute) if isinstance(node.ctx, ast.Store)]
            words += [node.name for node in nodes(tree, ast.FunctionDef)]
            self.assertNotIn("keys", words, name)
            for node in nodes(tree, ast.ClassDef):
                methods = {row.name: row for row in node.body if isinstance(row, ast.FunctionDef)}
                if "__getitem__" in methods:
                    self.assertIsInstance(methods["__iter__"].body[-1], ast.Raise, name)

    def test_generators(self):
        found = {node.name for _, _, tree in files() for node in nodes(tree, ast.FunctionDef)
                 if nodes(node, ast.Yield, ast.YieldFrom)}
        self.assertEqual(found, {"_pairs_from", "scan"})
        for name, _, tree in files():
            heads = [node.iter for node in nodes(tree, ast.For, ast.comprehension)]
            for node in nodes(tree, ast.Call):
                if isinstance(node.func, ast.Attribute) and node.func.attr in found:
                    self.assertIn(node, heads, f"{name}:{node.lineno}")
                    self.assertTrue(all(isinstance(one, ast.Name) for one in node.args), f"{name}:{node.lineno}")


class InterfaceTest(unittest.TestCase):
    def test_names_stand_in_their_files(self):
        for module, words in INTERFACE.items():
            tree = ast.parse((PACKAGE / f"{module}.py").read_text(encoding="utf-8"))
            bodies = {node.name: node for node in tree.body if isinstance(node, (ast.FunctionDef, ast.ClassDef))}
            for word, methods in words.items():
                self.assertIn(word, bodies, module)
                inside = [node.name for node in bodies[word].body if isinstance(node, ast.FunctionDef)]
                self.assertIsInstance(bodies[word], ast.ClassDef if word[0].isupper() else ast.FunctionDef)
                self.assertLessEqual(set(methods), set(inside), f"{module}.{word}")


if __name__ == "__main__":
    unittest.main()
