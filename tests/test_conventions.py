"""The names and parameters of the interface, and the limits of the files of the package."""

import ast
import inspect
import unittest
from pathlib import Path

import surefit
from surefit import batches, errors, gauges, grinds, inspectors, logs, lots, plans, probes, sessions, texts
from surefit.lots import Lot
from surefit.probes import results

FOLDER = Path(surefit.__file__).parent

INTERFACE = {
    lots: {"Lot": ["pins", "bores", "gap", "gauges", "prices"], "sure_pairs": ["lot", "state"],
           "hoped_pairs": ["lot", "state"], "verdict": ["lot", "state", "many"]},
    probes: {"all_tests": ["lot", "state"], "results": ["lot", "state", "test"]},
    plans: {"plan": ["lot", "state", "many"], "plan_cost": ["lot", "state", "many"],
            "Plan": ["bound", "tree", "levels"], "Stuck": ["states"]},
    batches: {"batch": ["lot", "state", "many"], "batch_cost": ["lot", "state", "many"],
              "Batch": ["tests", "tree"], "NoBatch": ["state"]},
    gauges: {"more_gauges": ["lot", "state", "many"], "gauge_costs": ["lot", "state", "many"],
             "best_gauge": ["lot", "state", "many"], "Gauges": ["rows"]},
    grinds: {"make": ["lot", "position", "many", "fee"], "make_cost": ["lot", "position", "many", "fee"],
             "moves": ["lot", "position"], "Make": ["bound", "tree", "levels"], "Unmade": ["spots"]},
    inspectors: {"next_test": ["lot", "state", "many", "inspector"], "judge": ["lot", "state", "many", "inspector"],
                 "worst_cost": ["lot", "state", "many", "inspector"], "Ends": ["total", "sizes", "heights"],
                 "Quits": ["sizes"]},
    logs: {"after_log": ["lot", "state", "log"], "spent": ["lot", "state", "log"],
           "ruled_out": ["lot", "state", "log"]},
    sessions: {"Session": ["lot", "sizes"]},
    texts: {"lot_text": ["lot"], "state_text": ["lot", "state"], "read_lot": ["text"], "read_state": ["lot", "text"]},
    errors: {"BadLot": ["part"], "BadTests": ["index"], "BadLog": ["index"], "BadText": ["row"]},
}

# What the classes themselves must define, each with the parameters behind `self`; None for a property.
STATE, POSITION = ["lot", "state", "many"], ["lot", "position", "many", "fee"]
METHODS = {
    lots.Lot: {"pins": None, "bores": None, "gap": None, "gauges": None, "prices": None, "__len__": [],
               "__eq__": ["other"], "start": []},
    plans.Plan: {"__eq__": ["other"], "shows": STATE},
    plans.Stuck: {"__eq__": ["other"], "__iter__": [], "shows": STATE},
    batches.Batch: {"__eq__": ["other"], "__iter__": [], "shows": STATE},
    batches.NoBatch: {"__eq__": ["other"], "shows": STATE},
    gauges.Gauges: {"__eq__": ["other"], "__iter__": [], "shows": STATE},
    grinds.Make: {"__eq__": ["other"], "shows": POSITION},
    grinds.Unmade: {"__eq__": ["other"], "__iter__": [], "shows": POSITION},
    inspectors.Ends: {"__eq__": ["other"], "shows": STATE + ["inspector"]},
    inspectors.Quits: {"__eq__": ["other"], "shows": STATE + ["inspector"]},
    sessions.Session: {"known": None, "journal": None, "__len__": [], "__iter__": [], "test": ["test"], "paid": [],
                       "undo": [], "branch": [], "trial": [], "tried": ["tests"]},
}


class Interface(unittest.TestCase):

    def test_names_and_parameters(self):
        for module, listed in INTERFACE.items():
            for name, parameters in listed.items():
                with self.subTest(module=module.__name__, name=name):
                    found = getattr(module, name)
                    self.assertEqual(found.__module__, module.__name__)
                    self.assertEqual(list(inspect.signature(found).parameters), parameters)

    def test_what_the_classes_themselves_define(self):
        for found, methods in METHODS.items():
            self.assertIn("__init__", vars(found))
            for name, parameters in methods.items():
                with self.subTest(found=found.__name__, name=name):
                    if parameters is None:
                        self.assertIs(vars(found)[name].__class__, property)
                    else:
                        self.assertEqual(list(inspect.signature(vars(found)[name]).parameters)[1:], parameters)

    def test_the_words_of_the_inspectors(self):
        self.assertEqual(inspectors.INSPECTORS, ("first", "cheap", "even", "wide"))

    def test_arguments_by_name(self):
        lot = Lot(prices=(1, None), gauges=(5,), gap=(3, 3), bores=((6, 7),), pins=((4, 5),))
        self.assertEqual(lots.verdict(many=1, state=lot.start(), lot=lot), None)
        self.assertEqual(len(results(test=("gauge", 0, 5), state=lot.start(), lot=lot)), 2)


class Files(unittest.TestCase):

    def sources(self):
        return sorted(path for path in FOLDER.iterdir() if path.name != "__pycache__")

    def test_the_folder_contains_python_files_alone(self):
        self.assertEqual([path.name for path in self.sources() if path.suffix != ".py"], [])

    def test_lengths_and_characters(self):
        for path in self.sources():
            text = path.read_text(encoding="utf-8")
            with self.subTest(path=path.name):
                self.assertLessEqual(len(text.splitlines()), 399)
                self.assertLessEqual(max(map(len, text.splitlines()), default=0), 120)
                self.assertEqual([sign for sign in text if sign != "\n" and not " " <= sign <= "~"], [])

    def test_lengths_of_functions(self):
        for path in self.sources():
            for node in ast.walk(ast.parse(path.read_text(encoding="utf-8"))):
                if isinstance(node, ast.FunctionDef):
                    with self.subTest(path=path.name, name=node.name):
                        self.assertLessEqual(node.end_lineno - node.lineno + 1, 40)


if __name__ == "__main__":
    unittest.main()
