"""Points [1] to [3] and the interface, over the whole program: names, kinds, arguments, new lists, order of errors."""

import importlib
import inspect
import unittest

import yearturned
from yearturned.changes import can_begin, count_right, fewest_changes, mended
from yearturned.errors import NoDeed, NoLine, NoText, TurnError
from yearturned.plays import faults, play
from yearturned.right import first_fault, is_right, needless
from yearturned.scripts import Script
from yearturned.texts import deeds_text, read_deeds, read_script, script_text
from yearturned.years import Years

RUN = ("run",)
FINE = (("make", "standing"), ("start", "all"), ("label", "free"), ("tie", "free"), ("drop",))

FUNCTIONS = {
    "plays": {"play": ["script", "deeds"], "faults": ["script", "deeds"]},
    "right": {"first_fault": ["script"], "is_right": ["script"], "needless": ["script"]},
    "changes": {"fewest_changes": ["script"], "mended": ["script"], "count_right": ["number"], "can_begin": ["script"]},
    "texts": {"script_text": ["script"], "deeds_text": ["deeds"], "read_script": ["text"], "read_deeds": ["text"]},
}
METHODS = {
    "scripts": ("Script", {"__init__": ["steps"], "steps": [], "without": ["index"], "with_step": ["index", "step"],
                           "__len__": [], "__eq__": None, "__getitem__": None, "__add__": None, "__contains__": None}),
    "years": ("Years", {"__init__": ["script"], "do": ["deed"], "do_all": ["deeds"], "undo": [], "change": ["script"],
                        "old": [], "new": [], "faults": [], "made_of": ["number"], "__len__": []}),
}
ERRORS = {
    "TurnError": None, "NotRight": None, "NothingToUndo": None, "NoStep": ["index"], "NoIndex": ["index"],
    "NoDeed": ["index"], "NoLine": ["index"], "NoNumber": ["number"], "NoText": ["part"],
}


def module(name):
    return importlib.import_module("yearturned." + name)


class Names(unittest.TestCase):
    def assert_takes(self, call, names, own=0):
        self.assertEqual(list(inspect.signature(call).parameters)[own:], names)

    def test_functions(self):
        for file, functions in FUNCTIONS.items():
            for name, names in functions.items():
                function = vars(module(file))[name]
                self.assertTrue(inspect.isfunction(function))
                self.assertEqual(function.__module__, "yearturned." + file)
                self.assert_takes(function, names)

    def test_classes(self):
        for file, (name, methods) in METHODS.items():
            made = vars(module(file))[name]
            self.assertTrue(inspect.isclass(made))
            self.assertEqual(made.__module__, "yearturned." + file)
            for method, names in methods.items():
                self.assertTrue(inspect.isfunction(vars(made)[method]), method)
                if names is not None:
                    self.assert_takes(vars(made)[method], names, 1)

    def test_properties(self):
        self.assertIsNotNone(vars(Years)["script"].fset)
        self.assertIsNone(vars(Years)["runs"].fset)

    def test_errors(self):
        for name, names in ERRORS.items():
            error = vars(module("errors"))[name]
            self.assertEqual(error.__module__, "yearturned.errors")
            self.assertEqual(error.__bases__, (ValueError,) if name == "TurnError" else (TurnError,))
            if names is not None:
                self.assert_takes(error.__init__, names, 1)

    def test_one_package(self):
        self.assertEqual(yearturned.__name__, "yearturned")


class Kinds(unittest.TestCase):
    def test_answers(self):
        right, wrong = Script(FINE), Script(FINE[:4])
        deeds = [("add", 1, 1), RUN]
        years = Years(right)
        for answer, kind in [
            (play(right, deeds), tuple), (faults(right, deeds), list), (first_fault(wrong), list),
            (first_fault(right), None), (is_right(right), bool), (is_right(wrong), bool), (needless(right), list),
            (fewest_changes(right), int), (mended(wrong), Script), (count_right(5), int), (can_begin(wrong), int),
            (can_begin(Script((("tie", "all"),))), None), (script_text(right), str), (deeds_text(deeds), str),
            (read_script("drop"), Script), (read_deeds("run"), list), (years.do(("add", 1, 1)), int),
            (years.do(RUN), tuple), (years.do(("end", 1)), None), (years.do_all([]), list), (years.undo(), None),
            (years.change(wrong), None), (years.old(), list), (years.new(), list), (years.faults(), list),
            (years.made_of(1), int), (len(years), int), (years.runs, int), (years.script, Script),
        ]:
            self.assertIs(type(answer), kind if kind is not None else type(None))


class Together(unittest.TestCase):
    """What one file returns, another one takes."""

    def test_a_script_is_read_mended_and_lived(self):
        script = read_script("make all, tie free")
        self.assertIs(is_right(script), False)
        deeds = first_fault(script)
        self.assertEqual(faults(script, read_deeds(deeds_text(deeds))), faults(script, deeds))
        years = Years(script)
        years.do_all(deeds)
        self.assertEqual(years.faults(), faults(script, deeds))
        self.assertNotEqual(years.faults(), [])
        years.undo()
        years.script = mended(script)
        years.do_all(deeds)
        self.assertEqual(years.faults(), [])
        self.assertEqual(read_script(script_text(years.script)), years.script)

    def test_what_can_begin_and_what_is_needless(self):
        script = Script(())
        for step in FINE:
            self.assertEqual(can_begin(script), 5 - len(script))
            script = script.with_step(len(script), step)
        self.assertEqual((can_begin(script), fewest_changes(script), needless(script)), (0, 0, []))
        self.assertEqual(needless(script + Script((("drop",),))), [4, 5])

    def test_arguments_stay(self):
        script = Script(FINE)
        deeds = [("add", 1, 1), ("tie", 1, 1), RUN]
        items = list(deeds)
        years = Years(script)
        for call in (lambda: play(script, deeds), lambda: faults(script, deeds), lambda: deeds_text(deeds),
                     lambda: years.do_all(deeds), lambda: first_fault(script), lambda: is_right(script),
                     lambda: needless(script), lambda: fewest_changes(script), lambda: mended(script),
                     lambda: can_begin(script), lambda: script_text(script), lambda: years.change(script)):
            call()
            self.assertEqual(len(deeds), len(items))
            self.assertTrue(all(deed is item for deed, item in zip(deeds, items)))
            self.assertEqual(script.steps(), FINE)

    def test_the_same_errors_everywhere(self):
        script = Script(FINE)
        for deeds, error, index in [
            ([None], NoDeed, 0), ([RUN, ("end", 1), ("end", 0)], NoDeed, 2), ([RUN, ("end", 1), ("end", 2)], NoLine, 1),
            ((RUN,), NoDeed, 0),
        ]:
            for call in (play, faults, lambda script, deeds: Years(script).do_all(deeds)):
                with self.assertRaises(error) as caught:
                    call(script, deeds)
                self.assertIs(type(caught.exception), error)
                self.assertEqual(caught.exception.index, index)

    def test_all_are_turn_errors(self):
        for call in (lambda: read_deeds("walk"), lambda: read_script(None), lambda: count_right(-1),
                     lambda: needless(Script(())), lambda: Years(Script(())).undo(), lambda: Script(None),
                     lambda: Years(Script(())).made_of(1), lambda: play(Script(()), None)):
            self.assertRaises(TurnError, call)
            self.assertRaises(ValueError, call)
        self.assertRaises(NoText, read_deeds, "walk")


if __name__ == "__main__":
    unittest.main()
