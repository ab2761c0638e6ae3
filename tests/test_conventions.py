"""Point 1: what holds for all functions and classes, and the limits of the files of the package."""

import ast
import inspect
import unittest
from pathlib import Path

import surefit
from surefit import batches, errors, gauges, grinds, lots, plans, probes
from surefit.batches import batch
from surefit.gauges import gauge_costs, more_gauges
from surefit.grinds import make, moves
from surefit.lots import Lot, hoped_pairs, sure_pairs
from surefit.plans import plan
from surefit.probes import all_tests, results
from tests.samples import lot_with

FOLDER = Path(surefit.__file__).parent

INTERFACE = {
    lots: {"Lot": ["pins", "bores", "gap", "gauges", "prices"], "sure_pairs": ["lot", "state"],
           "hoped_pairs": ["lot", "state"], "verdict": ["lot", "state", "many"]},
    probes: {"all_tests": ["lot", "state"], "results": ["lot", "state", "test"]},
    plans: {"plan": ["lot", "state", "many"], "plan_cost": ["lot", "state", "many"],
            "Plan": ["bound", "tree", "levels"], "Stuck": ["states"]},
    batches: {"batch": ["lot", "state", "many"], "batch_cost": ["lot", "state", "many"],
              "Batch": ["tests", "tree"], "NoBatch": ["state"]},
    gauges: {"more_gauges": ["lot", "state", "many"], "gauge_costs": ["lot", "state", "many"],
             "best_gauge": ["lot", "state", "many"], "Gauges": ["rows"]},
    grinds: {"make": ["lot", "position", "many", "fee"], "make_cost": ["lot", "position", "many", "fee"],
             "moves": ["lot", "position"], "Make": ["bound", "tree", "levels"], "Unmade": ["spots"]},
    errors: {"BadLot": ["part"], "BadTests": ["index"], "BadLog": ["index"], "BadText": ["row"]},
}

# What the classes themselves must define, and the parameters of `shows`.
METHODS = {
    plans.Plan: ["__init__", "__eq__", "shows"], plans.Stuck: ["__init__", "__eq__", "__iter__", "shows"],
    batches.Batch: ["__init__", "__eq__", "__iter__", "shows"], batches.NoBatch: ["__init__", "__eq__", "shows"],
    gauges.Gauges: ["__init__", "__eq__", "__iter__", "shows"],
    grinds.Make: ["__init__", "__eq__", "shows"], grinds.Unmade: ["__init__", "__eq__", "__iter__", "shows"],
}


class Lists(unittest.TestCase):

    def test_every_returned_list_is_new(self):
        lot = lot_with(gap=(-9, 9), prices=(1, 2))
        state = lot.start()
        calls = [lambda: sure_pairs(lot, state), lambda: hoped_pairs(lot, state), lambda: all_tests(lot, state),
                 lambda: results(lot, state, ("gauge", 1, 7)), lambda: results(lot, state, ("measure", 1))]
        for call in calls:
            found = call()
            self.assertIs(found.__class__, list)
            self.assertNotEqual(found, [])
            kept = list(found)
            found.clear()
            self.assertEqual(call(), kept)
            self.assertIsNot(call(), call())

    def test_every_returned_list_or_dict_of_an_answer_is_new(self):
        lot, shut = lot_with(), lot_with(gauges=(5,))
        state, position = lot.start(), (lot.start(), (0, 0, 0))
        calls = [lambda: plan(lot, state, 1).levels, lambda: plan(shut, state, 1).states,
                 lambda: batch(lot, state, 1).tests, lambda: more_gauges(shut, state, 1).rows,
                 lambda: gauge_costs(shut, state, 1), lambda: make(Lot(((4, 4),), ((5, 5),), (2, 2), (), (1, None)),
                                                                   (((4, 4), (5, 5)), (0, 0)), 1, 1).levels,
                 lambda: make(Lot(((4, 4),), ((5, 5),), (9, 9), (), (1, None)), (((4, 4), (5, 5)), (0, 0)), 1, 1).spots,
                 lambda: moves(lot, position)]
        for call in calls:
            found = call()
            self.assertIn(found.__class__, (list, dict))
            kept = found.copy()
            self.assertTrue(kept)
            found.clear()
            self.assertTrue(call() == kept)

    def test_groups_of_a_fixed_size_are_tuples(self):
        lot = lot_with(gap=(-9, 9), prices=(1, 2))
        found = sure_pairs(lot, lot.start()) + hoped_pairs(lot, lot.start()) + all_tests(lot, lot.start())
        states = [lot.start()] + results(lot, lot.start(), ("gauge", 1, 7)) + results(lot, lot.start(), ("measure", 1))
        for group in found + states + [span for state in states for span in state]:
            self.assertIs(group.__class__, tuple)


class Interface(unittest.TestCase):

    def test_names_and_parameters(self):
        for module, listed in INTERFACE.items():
            for name, parameters in listed.items():
                with self.subTest(module=module.__name__, name=name):
                    found = getattr(module, name)
                    self.assertEqual(found.__module__, module.__name__)
                    self.assertEqual(list(inspect.signature(found).parameters), parameters)

    def test_what_the_classes_themselves_define(self):
        for found, names in METHODS.items():
            for name in names:
                with self.subTest(found=found.__name__, name=name):
                    self.assertIn(name, vars(found))
            wanted = ["self", "lot", "state", "many"]
            if found in (grinds.Make, grinds.Unmade):
                wanted = ["self", "lot", "position", "many", "fee"]
            self.assertEqual(list(inspect.signature(found.shows).parameters), wanted)

    def test_arguments_by_name(self):
        lot = Lot(prices=(1, None), gauges=(5,), gap=(3, 3), bores=((6, 7),), pins=((4, 5),))
        self.assertEqual(lots.verdict(many=1, state=lot.start(), lot=lot), None)
        self.assertEqual(len(results(test=("gauge", 0, 5), state=lot.start(), lot=lot)), 2)


class Files(unittest.TestCase):

    def sources(self):
        return sorted(path for path in FOLDER.iterdir() if path.name != "__pycache__")

    def test_the_folder_contains_python_files_alone(self):
        self.assertEqual([path.name for path in self.sources() if path.suffix != ".py"], [])

    def test_lengths_and_characters(self):
        for path in self.sources():
            text = path.read_text(encoding="utf-8")
            with self.subTest(path=path.name):
                self.assertLessEqual(len(text.splitlines()), 399)
                self.assertLessEqual(max(map(len, text.splitlines()), default=0), 120)
                self.assertEqual([sign for sign in text if sign != "\n" and not " " <= sign <= "~"], [])

    def test_lengths_of_functions(self):
        for path in self.sources():
            for node in ast.walk(ast.parse(path.read_text(encoding="utf-8"))):
                if isinstance(node, ast.FunctionDef):
                    with self.subTest(path=path.name, name=node.name):
                        self.assertLessEqual(node.end_lineno - node.lineno + 1, 40)


if __name__ == "__main__":
    unittest.main()
