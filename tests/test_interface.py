"""The interface: names, arguments and the files in which they are defined."""

import ast
import importlib
import inspect
import unittest
from pathlib import Path

PACKAGE = Path(__file__).resolve().parent.parent / "normalwords"

INTERFACE = {
    "words": {"is_undo": "value", "is_word": "value letters", "undone": "undo word",
              "freely_reduced": "undo word", "is_ahead": "one other"},
    "languages": {"least_machine": "machine", "both": "one other", "either": "one other",
                  "without": "one other", "first_word": "machine", "first_unlike": "one other",
                  "is_within": "one other", "has_beginnings": "machine", "words_of": "machine length"},
    "counts": {"count": "machine length", "recursion": "machine", "total": "machine", "growth": "machine"},
    "pairs": {"side_by_side": "letters u v", "read_pair": "letters row", "stray_row": "machine letters",
              "takes_pair": "machine letters u v"},
    "relations": {"swapped": "machine letters", "firsts": "machine letters", "seconds": "machine letters",
                  "behind": "one other letters", "equal_pairs": "machine", "all_pairs": "one other",
                  "first_led": "machine letters word", "second_led": "machine letters word"},
    "judging": {"witness": "telling", "is_witness": "telling value", "tells_group": "telling",
                "tells_places": "telling"},
    "edgewords": {"ring_form": "undo word", "edge_words": "telling"},
    "alike": {"unlike_word": "one other", "are_alike": "one other"},
    "maps": {"map_fault": "group other images", "is_map": "group other images", "image": "group other images word"},
    "derivations": {"made_by": "undo rules derivation", "derives": "undo rules word value",
                    "tells_rules": "group rules derivations"},
    "shortest": {"longer_step": "group", "are_shortest": "group", "greater_step": "group", "are_least": "group"},
    "balls": {"ball": "group radius", "sphere": "group radius", "least_word": "group word"},
    "subgroups": {"loop_words": "group machine", "subgroup_fault": "group machine", "is_fault": "group machine value",
                  "is_subgroup": "group machine", "has_element": "group machine word", "common": "group one other",
                  "made_subgroup": "group words most", "index": "group machine most"},
    "tables": {"table_group": "table makers", "product_of": "table makers word"},
    "rounds": {"whole_numbers": "", "round_group": "n", "mirrors": ""},
    "frees": {"free_group": "n"},
    "besides": {"beside": "one other"},
    "joins": {"joined": "one other"},
    "rewriting": {"last_form": "undo exchanges word", "two_forms": "undo exchanges"},
    "rulegroups": {"is_complete": "undo exchanges", "rule_group": "undo exchanges radius"},
    "texts": {"write_machine": "machine", "read_machine": "text", "write_telling": "telling", "read_telling": "text"},
}

CLASSES = {
    "machines": {"Machine": {"__init__": "letters table ends", "__eq__": "other", "__len__": "",
                             "state_after": "word", "takes": "word"}},
    "tellings": {"Telling": {"__init__": "undo words steps", "__eq__": "other", "led": "word x",
                             "walked": "word row"}},
    "groups": {"Group": {"__init__": "telling", "__eq__": "other", "normal": "word", "is_nothing": "word",
                         "equal": "one other", "commute": "one other", "times": "one other", "undone": "word",
                         "power": "word n", "order": "word most", "size": "", "is_commutative": ""},
               "Places": {"__init__": "telling", "__eq__": "other", "led": "word row", "stays": "word", "size": ""}},
    "desk": {"Desk": {"__init__": "group", "run": "command"}},
}


def defined(name):
    """What the file of a module defines at its top, by name."""
    tree = ast.parse((PACKAGE / f"{name}.py").read_text(encoding="utf-8"))
    return {node.name: node for node in tree.body if isinstance(node, (ast.FunctionDef, ast.ClassDef))}


class Interface(unittest.TestCase):
    def test_functions(self):
        for name, functions in INTERFACE.items():
            module = importlib.import_module(f"normalwords.{name}")
            for function, parameters in functions.items():
                with self.subTest(module=name, function=function):
                    self.assertIsInstance(defined(name)[function], ast.FunctionDef)
                    found = inspect.signature(getattr(module, function)).parameters
                    self.assertEqual(list(found), parameters.split())

    def test_classes(self):
        for name, classes in CLASSES.items():
            module = importlib.import_module(f"normalwords.{name}")
            for made, methods in classes.items():
                self.assertIsInstance(defined(name)[made], ast.ClassDef)
                for method, parameters in methods.items():
                    with self.subTest(module=name, made=made, method=method):
                        found = inspect.signature(vars(getattr(module, made))[method]).parameters
                        self.assertEqual(list(found)[1:], parameters.split())


if __name__ == "__main__":
    unittest.main()
