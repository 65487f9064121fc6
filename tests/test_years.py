"""Points [16], [17] and [18]: live years."""

import random
import unittest

from tests.search import some_history
from tests.shadow import Shadow, plain, told_by
from tests.test_model import some_deed
from tests.test_play_errors import AHEAD, GOOD, NO_NUMBERS
from tests.values import ODD
from yearturned.errors import NoDeed, NoLine, NoNumber, NothingToUndo
from yearturned.plays import faults, play
from yearturned.scripts import STEPS, Script
from yearturned.years import Years

RUN = ("run",)
DROP = ("drop",)
ALL = ("make", "all")
STANDING = ("make", "standing")
FINE = (STANDING, ("start", "all"), ("label", "free"), ("tie", "free"), DROP)


def years_of(*steps):
    return Years(Script(steps))


class Case(unittest.TestCase):
    def assert_error(self, error, index, call, *rest):
        with self.assertRaises(error) as caught:
            call(*rest)
        self.assertIs(type(caught.exception), error)
        self.assertEqual(caught.exception.index, index)
        self.assertIs(type(caught.exception.index), int)

    def assert_same(self, years, before):
        self.assertEqual(told_by(years), before)


class Beginning(Case):
    def test_nothing_is_there(self):
        for steps in [(), FINE, STEPS]:
            years = Years(Script(steps))
            self.assertEqual(told_by(years), ([], [], [], [], 0, 0, steps))
            self.assertEqual(years.script, Script(steps))
            self.assertIs(type(len(years)), int)
            self.assertIs(type(years.runs), int)
            self.assertRaises(NothingToUndo, years.undo)

    def test_defined_in_the_class(self):
        for name in ("do", "do_all", "undo", "change", "old", "new", "faults", "made_of", "__len__"):
            self.assertIn(name, vars(Years))
        self.assertIsInstance(vars(Years)["runs"], property)
        self.assertIsInstance(vars(Years)["script"], property)
        self.assertEqual(Years.__module__, "yearturned.years")


class Do(Case):
    def test_each_deed(self):
        years = years_of(*FINE)
        for deed, expected in [
            (("add", 70, 5), 1), (("add", 80, 6), 2), (("own", 90), 1), (RUN, ([2, 3], [])),
            (("label", 1, 71), None), (("moves", 1, -9), None), (("tie", 1, 2), None), (("tie", 2, None), None),
            (("write label", 2, 7), None), (("write moves", 3, 4), None), (("write tie", 1, 3), None),
            (("write tie", 1, None), None), (("add", 60, 0), 3), (("end", 2), None), (("end", 2), None),
            (RUN, ([4], [3])), (RUN, ([], [])), (("own", 0), 5), (("add", 0, 0), 4), (("end", 1), None),
            (("end", 3), None), (RUN, ([6], [2, 4])),
        ]:
            self.assertEqual(years.do(deed), expected, deed)
        self.assertEqual(years.old(), [(1, 71, 5, -9, 2, False), (2, 80, 6, 0, None, False),
                                       (3, 60, 0, 0, None, False), (4, 0, 0, 0, None, True)])
        self.assertEqual(years.new(), [(1, 90, 0, 0, None, None), (5, 0, 0, 0, None, None), (6, 0, 0, 0, None, 4)])
        self.assertEqual((len(years), years.runs, years.faults()), (22, 4, []))

    def test_kinds(self):
        years = years_of(*FINE)
        self.assertIs(type(years.do(("add", 1, 1))), int)
        self.assertIs(type(years.do(("own", 1))), int)
        self.assertIsNone(years.do(("end", 1)))
        answer = years.do(RUN)
        self.assertIs(type(answer), tuple)
        self.assertEqual([type(part) for part in answer], [list, list])

    def test_made_and_dropped_in_one_run(self):
        # The line of the ended one is made and removed each time, and is in neither list.
        years = years_of(ALL, DROP, STANDING)
        years.do_all([("add", 1, 0), ("add", 2, 0), ("end", 1)])
        self.assertEqual(years.do(RUN), ([2], []))
        self.assertEqual(years.do(RUN), ([], []))
        self.assertEqual(years.do(("own", 1)), 4)
        years.do(("end", 2))
        self.assertEqual(years.do(RUN), ([], [2]))

    def test_dropped_and_made_again(self):
        years = years_of(DROP, ALL)
        years.do_all([("add", 1, 0), ("add", 2, 0), RUN, ("end", 1), ("end", 2)])
        self.assertEqual(years.do(RUN), ([3, 4], [1, 2]))
        self.assertEqual(years.do(RUN), ([5, 6], [3, 4]))

    def test_ascending(self):
        years = years_of(STANDING, ALL, DROP)
        years.do_all([("add", 1, 0), ("own", 1), ("add", 2, 0), RUN, ("add", 3, 0), RUN])
        years.do_all([("end", 3), ("end", 1)])
        self.assertEqual(years.do(RUN), ([], [2, 4]))

    def test_no_deed(self):
        years = years_of(*FINE)
        for count in range(4):
            before = told_by(years)
            for wrong in [*ODD, "run", ["run"], ("walk",), ("add", 1), ("add", True, 1), ("end", None), [RUN], (RUN,)]:
                self.assert_error(NoDeed, count, years.do, wrong)
            self.assert_same(years, before)
            years.do(("add", 1, count))

    def test_no_line(self):
        years = years_of(*FINE)
        for count in range(4):
            before = told_by(years)
            for deed in [("end", 9), ("label", 9, 1), ("moves", 9, 1), ("tie", 9, None), ("write label", 9, 1),
                         ("write moves", 9, 1), ("write tie", 9, None), ("end", 10 ** 9)]:
                self.assert_error(NoLine, count, years.do, deed)
            self.assert_same(years, before)
            years.do(("own", count))

    def test_by_name(self):
        years = years_of()
        self.assertEqual(years.do(deed=("add", 1, 1)), 1)
        self.assertEqual(years.do_all(deeds=[("own", 1)]), [1])
        self.assertEqual(years.made_of(number=1), None)


class DoAll(Case):
    def test_none_one_and_many(self):
        years = years_of(*FINE)
        self.assertEqual(years.do_all([]), [])
        self.assertEqual(told_by(years), ([], [], [], [], 0, 0, FINE))
        self.assertEqual(years.do_all([("add", 1, 2)]), [1])
        self.assertEqual(years.do_all([("add", 3, 4), ("own", 5), RUN, ("tie", 1, 2), RUN, ("end", 2), RUN]),
                         [2, 1, ([2, 3], []), None, ([], []), None, ([], [3])])
        self.assertEqual(years.do_all([]), [])
        self.assertEqual((len(years), years.runs), (8, 3))

    def test_new_lists(self):
        years = years_of(*FINE)
        empty = years.do_all([])
        self.assertIsNot(empty, years.do_all([]))
        answers = years.do_all([("add", 1, 2), RUN, RUN])
        parts = [part for answer in answers[1:] for part in answer]
        self.assertEqual(len({id(part) for part in parts}), 4)
        for part in parts:
            part.append("x")
        answers.clear()
        self.assertEqual(years.new(), [(1, 1, 2, 0, None, 1)])
        self.assertEqual(years.do(RUN), ([], []))

    def test_the_passed_list_stays_and_is_not_kept(self):
        years = years_of(*FINE)
        deeds = [("add", 1, 2), RUN, ("own", 1)]
        items = list(deeds)
        years.do_all(deeds)
        self.assertEqual(deeds, items)
        before = told_by(years)
        deeds.clear()
        self.assert_same(years, before)
        years.do_all(items)
        years.undo()
        self.assert_same(years, before)

    def test_no_deed(self):
        years = years_of(*FINE)
        for count in range(3):
            before = told_by(years)
            for wrong in [(), tuple(GOOD), (RUN,), "run", "", {}, iter([RUN]), *ODD]:
                if not isinstance(wrong, list):
                    self.assert_error(NoDeed, count, years.do_all, wrong)
            for wrong in [*ODD, ["run"], ("walk",)]:
                self.assert_error(NoDeed, count, years.do_all, [wrong])
                self.assert_error(NoDeed, count + 2, years.do_all, [*AHEAD, wrong, None, ("end", 9)])
                self.assert_error(NoDeed, count + 3, years.do_all, [("end", 9), *AHEAD, wrong])
            self.assert_same(years, before)
            years.do(("add", 1, 1))

    def test_no_line_and_none_is_done(self):
        years = years_of(*FINE)
        years.do_all([("add", 1, 1), RUN])
        before = told_by(years)
        for count, deeds in enumerate([
            [("end", 2)], [("end", 1), ("end", 2)], [RUN, RUN, ("write label", 2, 1)],
            [("add", 1, 1), ("own", 1), RUN, ("write tie", 1, 4)],
            [("label", 1, 2), ("moves", 1, 3), ("tie", 1, 1), RUN, ("write label", 9, 1)],
            [("write label", 1, 7), ("write tie", 1, 1), ("write moves", 1, 2), ("end", 1), RUN, ("write tie", 1, 1)],
        ]):
            self.assert_error(NoLine, 2 + count, years.do_all, deeds)
            self.assert_same(years, before)
        # What they would have typed is not typed either.
        years.do_all([("label", 1, 8), RUN])
        self.assertEqual(years.new(), [(1, 8, 1, 0, None, 1)])
        self.assertEqual(years.do(("own", 1)), 2)

    def test_many_deeds(self):
        years = years_of(*FINE)
        deeds = [("add", 1, 0)] * 99 + [RUN] + [("end", at) for at in range(1, 100)] + [RUN]
        answers = years.do_all(deeds)
        self.assertEqual(answers[:99], list(range(1, 100)))
        self.assertEqual(answers[99], (list(range(1, 100)), []))
        self.assertEqual(answers[199], ([], list(range(1, 100))))
        years.undo()
        self.assertEqual(told_by(years), ([], [], [], [], 0, 0, FINE))


class ErrorsBehindOtherCalls(Case):
    def test_the_number_of_deeds_not_taken_back(self):
        years = years_of(*FINE)
        years.do_all([("add", 1, 1), RUN, ("own", 1)])
        years.do(("add", 2, 2))
        for steps, count in [((), 4), (FINE, 4)]:
            years.change(Script(steps))
            self.assert_error(NoDeed, count, years.do, None)
            self.assert_error(NoLine, count, years.do, ("end", 3))
        for count in (4, 4, 4, 3, 0):
            self.assert_error(NoDeed, count, years.do, None)
            self.assert_error(NoDeed, count, years.do_all, None)
            self.assert_error(NoDeed, count + 1, years.do_all, [RUN, None])
            self.assert_error(NoLine, count, years.do, ("end", 3))
            self.assert_error(NoLine, count + 1, years.do_all, [RUN, ("end", 3)])
            self.assertEqual(len(years), count)
            if count > 0:
                years.undo()
        self.assertRaises(NothingToUndo, years.undo)

    def test_lines_that_are_taken_back_are_not_there(self):
        years = years_of(*FINE)
        years.do(("add", 1, 1))
        years.do(("end", 1))
        years.undo()
        years.undo()
        self.assert_error(NoLine, 0, years.do, ("end", 1))
        self.assertEqual(years.do(("add", 2, 2)), 1)
        self.assertEqual(years.old(), [(1, 2, 2, 0, None, True)])


class Undo(Case):
    CALLS = [
        lambda years: years.do(("add", 1, 5)), lambda years: years.do(("add", 2, 6)),
        lambda years: years.do(("own", 3)), lambda years: years.do(RUN), lambda years: years.do_all([]),
        lambda years: years.do(("label", 1, 8)), lambda years: years.do(("moves", 1, 3)),
        lambda years: years.do(("tie", 1, 2)), lambda years: years.do(("write label", 2, 9)),
        lambda years: years.do(("write moves", 3, 4)), lambda years: years.do(("write tie", 1, 3)),
        lambda years: years.change(Script((STANDING,))), lambda years: years.do(RUN),
        lambda years: years.change(Script((STANDING,))), lambda years: years.change(years.script),
        lambda years: years.do(("end", 2)), lambda years: years.do(RUN),
        lambda years: years.do_all([("own", 7), ("write tie", 2, 4), ("add", 0, 0), RUN, ("end", 1), RUN]),
        lambda years: setattr(years, "script", Script(FINE)), lambda years: years.do(RUN),
        lambda years: years.do_all([RUN]), lambda years: years.do(("end", 2)), lambda years: years.do_all([]),
        lambda years: setattr(years, "script", Script(FINE)),
    ]

    def test_each_kind_of_call_and_one_beyond(self):
        years = years_of(*FINE)
        places = [told_by(years)]
        for call in self.CALLS:
            call(years)
            places.append(told_by(years))
        for _ in range(2):
            for at in reversed(range(len(self.CALLS))):
                self.assertIsNone(years.undo())
                self.assertEqual(told_by(years), places[at])
            with self.assertRaises(NothingToUndo) as caught:
                years.undo()
            self.assertIs(type(caught.exception), NothingToUndo)
            self.assertEqual([type(field) for field in caught.exception.args], [str])
            self.assertEqual(told_by(years), places[0])
            for at, call in enumerate(self.CALLS, 1):
                call(years)
                self.assertEqual(told_by(years), places[at])

    def test_there_and_back_at_each_place(self):
        years = years_of(*FINE)
        for call in self.CALLS:
            before = told_by(years)
            call(years)
            behind = told_by(years)
            years.undo()
            self.assertEqual(told_by(years), before)
            call(years)
            self.assertEqual(told_by(years), behind)

    def test_what_was_typed(self):
        years = years_of(*FINE)
        years.do_all([("add", 1, 1), RUN])
        years.do(("write label", 1, 1))
        years.do(("write tie", 1, None))
        years.undo()
        years.undo()
        years.do_all([("label", 1, 2), ("tie", 1, 1), RUN])
        self.assertEqual(years.new(), [(1, 2, 1, 0, 1, 1)])

    def test_numbers_begin_again(self):
        years = years_of(ALL, DROP)
        years.do_all([("add", 1, 1), ("end", 1)])
        years.do(RUN)
        years.undo()
        self.assertEqual(years.do(("own", 1)), 1)
        years.undo()
        years.do(RUN)
        self.assertEqual(years.do(("own", 1)), 2)

    def test_a_refused_call_is_not_taken_back(self):
        years = years_of(*FINE)
        years.do(("add", 1, 1))
        for call, wrong in [(years.do, None), (years.do, ("end", 2)), (years.do_all, None), (years.made_of, 2),
                            (years.do_all, [RUN, ("end", 2)]), (years.do_all, [RUN, None])]:
            self.assertRaises(ValueError, call, wrong)
        years.undo()
        self.assertEqual(len(years), 0)
        self.assertRaises(NothingToUndo, years.undo)

    def test_an_undo_is_not_taken_back(self):
        years = years_of(*FINE)
        years.do(("add", 1, 1))
        years.do(("add", 2, 2))
        years.undo()
        years.undo()
        self.assertEqual(years.old(), [])


class Change(Case):
    def test_goes_on_with_another(self):
        years = years_of(STANDING)
        years.do_all([("add", 1, 5), ("moves", 1, 2), RUN, ("moves", 1, 3)])
        self.assertIsNone(years.change(Script((("start", "all"),))))
        self.assertEqual(years.script, Script((("start", "all"),)))
        self.assertEqual(years.new(), [(1, 1, 7, 0, None, 1)])
        years.do(RUN)
        self.assertEqual(years.new(), [(1, 1, 8, 0, None, 1)])

    def test_assigned(self):
        years = years_of()
        years.script = Script(FINE)
        self.assertEqual(years.script, Script(FINE))
        years.do_all([("add", 1, 5), RUN])
        self.assertEqual(years.made_of(1), 1)
        years.undo()
        years.undo()
        self.assertEqual(years.script, Script(()))
        self.assertRaises(NothingToUndo, years.undo)

    def test_runs_cannot_be_assigned(self):
        with self.assertRaises(AttributeError):
            years_of().runs = 1

    def test_no_deed(self):
        years = years_of()
        years.do(("add", 1, 1))
        years.change(Script(FINE))
        self.assertEqual((len(years), years.runs), (1, 0))

    def test_the_scripts_stay(self):
        one, other = Script((STANDING,)), Script(FINE)
        years = Years(one)
        years.do_all([("add", 1, 1), RUN])
        years.change(other)
        years.do(RUN)
        years.undo()
        years.undo()
        self.assertEqual((one.steps(), other.steps()), ((STANDING,), FINE))


class Telling(Case):
    def test_faults_of_the_last_run(self):
        years = years_of(STANDING)
        self.assertEqual(years.faults(), [])
        years.do_all([("add", 1, 5), ("tie", 1, 1)])
        self.assertEqual(years.faults(), [])
        years.do(RUN)
        self.assertEqual(years.faults(), [("tie", 2, 1)])
        years.do(("moves", 1, 1))
        self.assertEqual(years.faults(), [("tie", 2, 1)])
        years.do_all([("end", 1), RUN, ("add", 3, 3), RUN, ("own", 1)])
        self.assertEqual(years.faults(), [("stays", 7, 1)])
        years.undo()
        self.assertEqual(years.faults(), [("tie", 2, 1)])
        years.undo()
        years.undo()
        self.assertEqual(years.faults(), [])

    def test_by_the_script_of_that_time(self):
        years = years_of(STANDING)
        years.do_all([("add", 1, 5), ("tie", 1, 1), RUN])
        years.change(Script(FINE))
        self.assertEqual(years.faults(), [("tie", 2, 1)])
        years.do(RUN)
        self.assertEqual(years.faults(), [])
        years.change(Script(()))
        self.assertEqual(years.faults(), [])
        years.do(("add", 2, 2))
        years.do(RUN)
        self.assertEqual(years.faults(), [("missing", 5, 2)])
        years.undo()
        self.assertEqual(years.faults(), [])

    def test_made_of(self):
        years = years_of(STANDING, DROP)
        years.do_all([("own", 1), ("add", 1, 1), ("add", 2, 2), ("end", 1)])
        self.assertEqual([years.made_of(number) for number in (1, 2)], [None, None])
        years.do(RUN)
        self.assertEqual([years.made_of(number) for number in (1, 2)], [None, 2])
        years.do(("end", 2))
        self.assertEqual(years.made_of(2), 2)
        years.do(RUN)
        self.assertEqual(years.made_of(2), None)

    def test_no_number(self):
        years = years_of(STANDING)
        for count in range(3):
            before = told_by(years)
            for wrong in [0, -1, count + 1, 10 ** 9, *NO_NUMBERS, *ODD]:
                with self.assertRaises(NoNumber) as caught:
                    years.made_of(wrong)
                self.assertIs(type(caught.exception), NoNumber)
                self.assertIs(caught.exception.number, wrong)
            self.assert_same(years, before)
            years.do_all([("add", 1, 1), ("own", 1), ("own", 1), RUN])

    def test_new_lists_each_time(self):
        years = years_of(STANDING)
        years.do_all([("add", 1, 5), ("tie", 1, 1), RUN])
        before = told_by(years)
        for tell in (years.old, years.new, years.faults):
            self.assertIs(type(tell()), list)
            self.assertIsNot(tell(), tell())
            self.assertEqual({type(row) for row in tell()}, {tuple})
            tell().clear()
        self.assert_same(years, before)

    def test_empty_lists_too(self):
        years = years_of()
        for tell in (years.old, years.new, years.faults):
            tell().append(None)
        self.assertEqual((years.old(), years.new(), years.faults()), ([], [], []))
        self.assertEqual(years_of().faults(), [])


class LikePlay(Case):
    def test_one_by_one(self):
        source = random.Random(31)
        for _ in range(60):
            steps = tuple(source.choices(STEPS, k=source.randint(0, 12)))
            deeds, _ = some_history(source, steps, 30)
            years = Years(Script(steps))
            for count, deed in enumerate(deeds, 1):
                years.do(deed)
                if count in (1, 15, 30):
                    self.compare(years, steps, deeds[:count])

    def test_all_at_once(self):
        source = random.Random(32)
        for _ in range(60):
            steps = tuple(source.choices(STEPS, k=source.randint(0, 12)))
            deeds, _ = some_history(source, steps, 40)
            years = Years(Script(steps))
            cut = source.randint(0, 40)
            years.do_all(deeds[:cut])
            years.do_all(deeds[cut:])
            self.compare(years, steps, deeds)

    def compare(self, years, steps, deeds):
        told = (years.old(), years.new(), years.faults())
        self.assertEqual(told, plain(steps, deeds))
        script = Script(steps)
        self.assertEqual(told[:2], play(script, deeds))
        runs = [index for index, deed in enumerate(deeds) if deed == RUN]
        last = [fault for fault in faults(script, deeds) if runs and fault[1] == runs[-1]]
        self.assertEqual(told[2], last)
        self.assertEqual((len(years), years.runs), (len(deeds), len(runs)))


class LikeShadow(Case):
    def some_call(self, source, years, shadow):
        kind = source.choice(["do", "do", "do", "do", "all", "undo", "undo", "change", "wrong"])
        if kind == "undo":
            if shadow.calls:
                years.undo()
                shadow.calls.pop()
            else:
                self.assertRaises(NothingToUndo, years.undo)
        elif kind == "change":
            steps = source.choice([shadow.steps(), FINE, tuple(source.choices(STEPS, k=source.randint(0, 8)))])
            if source.random() < 0.5:
                years.change(Script(steps))
            else:
                years.script = Script(steps)
            shadow.calls.append(steps)
        elif kind == "wrong":
            self.assert_error(NoDeed, len(years) + 1, years.do_all, [some_deed(source), ("end", 0), None])
        else:
            deeds = [some_deed(source) for _ in range(1 if kind == "do" else source.randint(0, 5))]
            expected = shadow.do_all(deeds)
            if isinstance(expected, int):
                self.assert_error(NoLine, expected, years.do_all, deeds)
            elif kind == "do":
                self.assertEqual(years.do(deeds[0]), expected[0])
            else:
                self.assertEqual(years.do_all(deeds), expected)

    def test_many_calls(self):
        source = random.Random(33)
        for _ in range(100):
            steps = source.choice([FINE, tuple(source.choices(STEPS, k=source.randint(0, 12)))])
            years, shadow = Years(Script(steps)), Shadow(steps)
            for _ in range(100):
                self.some_call(source, years, shadow)
                self.assertEqual(told_by(years), shadow.told())

    def test_side_by_side(self):
        source = random.Random(34)
        script = Script(FINE)
        pairs = [(Years(script), Shadow(FINE)) for _ in range(4)]
        for _ in range(120):
            self.some_call(source, *source.choice(pairs))
            for years, shadow in pairs:
                self.assertEqual(told_by(years), shadow.told())

    def test_two_hundred_deeds_and_380_calls(self):
        source = random.Random(35)
        years, shadow = Years(Script(FINE)), Shadow(FINE)
        deeds, _ = some_history(source, FINE, 200)
        places = [told_by(years)]
        for deed in deeds:
            self.assertEqual([years.do(deed)], shadow.do_all([deed]))
            places.append(told_by(years))
        self.assertEqual(places[-1], shadow.told())
        for at in reversed(range(20, 200)):
            years.undo()
            self.assertEqual(told_by(years), places[at])


if __name__ == "__main__":
    unittest.main()
