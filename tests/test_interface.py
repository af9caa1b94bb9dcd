"""The interface: which names stand in which file, and how they are called."""

import ast
import inspect
import unittest
from importlib import import_module
from pathlib import Path

PACKAGE = Path(__file__).resolve().parent.parent / "fewkept"

CLASSES = {"errors": ["KeepError", "NoLink", "NoPlace", "TooMany", "NoKept", "NoPage", "NoText"], "houses": ["House"],
           "judging": ["Noted"], "desk": ["Desk"]}
HOUSE = {"__init__": "(self, r)", "hear": "(self, link)", "strike": "(self, link)", "many": "(self)", "links": "(self)",
         "struck": "(self)", "net": "(self)", "sure": "(self)", "surely": "(self, link)", "between": "(self, one, other)",
         "lessen": "(self, r)", "page": "(self)", "take": "(self, page)", "twin": "(self)", "__eq__": "(self, other)",
         "__len__": "(self)"}
METHODS = {("houses", "House"): HOUSE, ("judging", "Noted"): {**HOUSE, "record": "(self)"},
           ("desk", "Desk"): {"__init__": "(self, r)", "answer": "(self, row)"}}
FUNCTIONS = {
    "links": {"is_place": "(thing)", "is_link": "(thing)", "rising": "(links)", "places": "(links)"},
    "nets": {"net": "(links, *, struck=())", "net_paper": "(links, *, struck=())",
             "shows_net": "(links, told, paper, *, struck=())", "joined": "(links, one, other)"},
    "ways": {"apart": "(links, one, other, many)", "wide": "(links, one, other)", "crossing": "(links, side)",
             "are_ways": "(links, one, other, thing)", "is_side": "(links, one, other, thing)"},
    "keeping": {"kept": "(links, r)", "keep_paper": "(links, r)", "shows_kept": "(links, r, told, paper)",
                "strikes": "(links, r, link)", "splits": "(links, r)", "shows_splits": "(links, r, thing)"},
    "pasts": {"sure": "(links, r, *, struck=())", "shows_sure": "(links, r, thing, *, struck=())",
              "link_sure": "(links, r, link, *, struck=())", "shows_link": "(links, r, link, thing, *, struck=())",
              "between": "(links, r, one, other, *, struck=())", "is_past": "(links, r, row)",
              "past_net": "(links, r, row, *, struck=())", "other_past": "(links, r, *, struck=())"},
    "judging": {"judged": "(record)"},
    "texts": {"link_text": "(link)", "read_link": "(text)", "page_text": "(page)", "read_page": "(text)"},
}


def defined(name, kind):
    tree = ast.parse((PACKAGE / f"{name}.py").read_text())
    return [node.name for node in tree.body if isinstance(node, kind)]


class Interface(unittest.TestCase):
    def test_classes_stand_in_their_files(self):
        for name, words in CLASSES.items():
            for word in words:
                self.assertIn(word, defined(name, ast.ClassDef))
                self.assertEqual(getattr(import_module(f"fewkept.{name}"), word).__module__, f"fewkept.{name}")

    def test_functions_stand_in_their_files_with_their_arguments(self):
        for name, calls in FUNCTIONS.items():
            for word, arguments in calls.items():
                self.assertIn(word, defined(name, ast.FunctionDef))
                self.assertEqual(str(inspect.signature(getattr(import_module(f"fewkept.{name}"), word))), arguments)

    def test_methods_stand_in_the_body_of_their_own_class(self):
        for (name, word), methods in METHODS.items():
            own = vars(getattr(import_module(f"fewkept.{name}"), word))
            for method, arguments in methods.items():
                self.assertEqual(str(inspect.signature(own[method])), arguments, f"{word}.{method}")

    def test_the_init_defines_nothing(self):
        tree = ast.parse((PACKAGE / "__init__.py").read_text())
        for node in tree.body:
            self.assertTrue(isinstance(node, ast.Expr) and isinstance(node.value, ast.Constant))
