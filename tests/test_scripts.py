"""Points [2] to [5]: scripts."""

import unittest
from itertools import product

from tests.values import ODD, Sly
from yearturned.errors import NoIndex, NoStep
from yearturned.scripts import Script

STEPS = (
    ("make", "all"), ("make", "standing"),
    ("start", "new"), ("start", "all"), ("start", "free"),
    ("label", "new"), ("label", "all"), ("label", "free"),
    ("tie", "new"), ("tie", "all"), ("tie", "free"),
    ("drop",),
)
WORDS = ("make", "start", "label", "tie", "drop", "all", "standing", "new", "free", "", "Make", "make ", "run", "none")
NO_STEPS = [
    *ODD, *WORDS, 0, 1, -1, 12,
    ("make",), ("make", "all", "all"), ("make", "all", None), ("make", "new"), ("make", "free"), ("all", "make"),
    ("start",), ("start", "standing"), ("start", None), ("label", ""), ("label", True), ("tie", "New"), ("tie", b"all"),
    ("drop", "all"), ("drop", ""), ("drop", ()), (("drop",),), ("drop", "drop"), (b"drop",), ("drop ",), ("Drop",),
    ("make", ("all",)), ("make", ["all"]), ["drop"], ["make", "all"], ("make all",), ("run",),
]


class Case(unittest.TestCase):
    def assert_error(self, error, index, call, *rest):
        with self.assertRaises(error) as caught:
            call(*rest)
        self.assertIs(type(caught.exception), error)
        self.assertIs(type(caught.exception.index), type(index))
        if type(index) in (int, str, tuple, bool):
            self.assertEqual(caught.exception.index, index)
        else:
            self.assertIs(caught.exception.index, index)


class Making(Case):
    def test_each_length(self):
        for count in range(13):
            script = Script(STEPS[:count])
            self.assertEqual(len(script), count)
            self.assertEqual(script.steps(), STEPS[:count])
            self.assertIs(type(script.steps()), tuple)

    def test_by_name(self):
        self.assertEqual(Script(steps=(("drop",),)).steps(), (("drop",),))

    def test_each_step_again_and_again(self):
        for step in STEPS:
            for count in range(13):
                self.assertEqual(Script((step,) * count).steps(), (step,) * count)

    def test_all_pairs_of_words(self):
        for pair in product(WORDS, repeat=2):
            if pair in STEPS:
                self.assertEqual(Script((pair,))[0], pair)
            else:
                self.assert_error(NoStep, 0, Script, (pair,))

    def test_all_single_words(self):
        for word in WORDS:
            if word == "drop":
                self.assertEqual(Script(((word,),))[0], (word,))
            else:
                self.assert_error(NoStep, 0, Script, ((word,),))

    def test_no_step_at_any_place(self):
        for wrong in NO_STEPS:
            for count in range(12):
                self.assert_error(NoStep, count, Script, STEPS[:count] + (wrong,))
                self.assert_error(NoStep, count, Script, STEPS[:count] + (wrong,) + STEPS[count + 1:])

    def test_the_first_that_is_wrong(self):
        self.assert_error(NoStep, 2, Script, STEPS[:2] + (None, ("drop",), None))
        self.assert_error(NoStep, 0, Script, (None,) * 20)
        self.assert_error(NoStep, 11, Script, STEPS[:11] + (None,) + STEPS)

    def test_more_than_twelve(self):
        self.assert_error(NoStep, 12, Script, STEPS + (("drop",),))
        self.assert_error(NoStep, 12, Script, STEPS + (None,))
        self.assert_error(NoStep, 12, Script, STEPS + (None, ("drop",), None))
        self.assert_error(NoStep, 12, Script, STEPS * 25)
        self.assert_error(NoStep, 5, Script, STEPS[:5] + (None,) + STEPS * 2)

    def test_no_tuple(self):
        for wrong in ODD + [[], list(STEPS), [None], "drop", None, True, 0, {}, iter(STEPS), range(0)]:
            if not isinstance(wrong, tuple):
                self.assert_error(NoStep, 0, Script, wrong)


class Reading(Case):
    def test_index(self):
        for count in range(13):
            script = Script(STEPS[:count])
            self.assertEqual([script[index] for index in range(count)], list(STEPS[:count]))

    def test_no_index(self):
        for count in range(13):
            script = Script(STEPS[:count])
            for wrong in [count, count + 1, 12, 13, 10 ** 30, -1, -count, -count - 1, *ODD]:
                if not (isinstance(wrong, int) and not isinstance(wrong, bool) and 0 <= wrong < count):
                    self.assert_error(NoStep, wrong, lambda at: script[at], wrong)

    def test_in(self):
        for count in range(13):
            script = Script(STEPS[:count])
            for step in STEPS:
                self.assertIs(step in script, step in STEPS[:count])

    def test_in_of_any_value(self):
        for script in [Script(()), Script(STEPS), Script((("drop",),))]:
            for value in [*NO_STEPS, script, Script(())]:
                self.assertIs(value in script, False)
                self.assertIs(value not in script, True)

    def test_equal(self):
        pairs = [(), (("drop",),), (("drop",), ("drop",)), STEPS, STEPS[::-1], STEPS[:11], (STEPS[0],), (STEPS[1],)]
        for one, other in product(pairs, repeat=2):
            self.assertIs(Script(one) == Script(other), one == other)
            self.assertIs(Script(one) != Script(other), one != other)

    def test_equal_to_nothing_else(self):
        for steps in [(), STEPS, (("drop",),)]:
            script = Script(steps)
            for other in [*NO_STEPS, steps, list(steps), Sly(), len(steps)]:
                self.assertIs(script == other, False)
                self.assertIs(script != other, True)


class Adding(Case):
    def test_up_to_twelve_and_beyond(self):
        for many, more in product(range(13), repeat=2):
            one, other = Script(STEPS[:many]), Script(STEPS[:more])
            if many + more <= 12:
                self.assertEqual((one + other).steps(), STEPS[:many] + STEPS[:more])
            else:
                self.assert_error(NoStep, 12, lambda: one + other)
            self.assertEqual((one.steps(), other.steps()), (STEPS[:many], STEPS[:more]))

    def test_a_script_comes_of_it(self):
        self.assertIs(type(Script(()) + Script(())), Script)
        self.assertEqual(Script(STEPS[:3]) + Script(STEPS[3:]), Script(STEPS))

    def test_in_order(self):
        one, other = Script((STEPS[0],)), Script((STEPS[1],))
        self.assertNotEqual(one + other, other + one)

    def test_nothing_else_is_added(self):
        for other in [(), STEPS[:1], [], None, 1]:
            self.assertRaises(TypeError, lambda: Script(()) + other)
            self.assertRaises(TypeError, lambda: other + Script(()))

    def test_to_itself(self):
        script = Script(STEPS[:2])
        script += script
        self.assertEqual(script.steps(), STEPS[:2] * 2)


class Without(Case):
    def test_each_place(self):
        for count in range(13):
            script = Script(STEPS[:count])
            for index in range(count):
                self.assertEqual(script.without(index), Script(STEPS[:index] + STEPS[index + 1:count]))
                self.assertEqual(script.without(index=index), script.without(index))
            self.assertEqual(script.steps(), STEPS[:count])

    def test_no_place(self):
        for count in (0, 1, 5, 12):
            script = Script(STEPS[:count])
            for wrong in [count, count + 1, 13, 10 ** 30, -1, -count - 1, *ODD]:
                self.assert_error(NoStep, wrong, script.without, wrong)
            self.assertEqual(script.steps(), STEPS[:count])


class WithStep(Case):
    def test_each_place(self):
        for count in range(12):
            script = Script(STEPS[:count])
            for index, step in product(range(count + 1), STEPS):
                longer = script.with_step(index, step)
                self.assertEqual(longer, Script(STEPS[:index] + (step,) + STEPS[index:count]))
                self.assertEqual(script.with_step(step=step, index=index), longer)
            self.assertEqual(script.steps(), STEPS[:count])

    def test_no_index_comes_first(self):
        for count in (0, 1, 5, 11, 12):
            script = Script(STEPS[:count])
            for wrong in [count + 1, 13, 10 ** 30, -1, -count - 1, *ODD]:
                for step in [("drop",), None, ("make", "new")]:
                    self.assert_error(NoIndex, wrong, script.with_step, wrong, step)

    def test_then_no_step(self):
        for count in (0, 1, 5, 11, 12):
            script = Script(STEPS[:count])
            for index, wrong in product((0, count // 2, count), NO_STEPS):
                self.assert_error(NoStep, index, script.with_step, index, wrong)

    def test_then_twelve(self):
        for index, step in product(range(13), STEPS):
            self.assert_error(NoStep, 12, Script(STEPS).with_step, index, step)
        self.assertEqual(len(Script(STEPS[:11]).with_step(11, ("drop",))), 12)


class OwnMethods(unittest.TestCase):
    def test_each_is_defined_in_the_class(self):
        for name in ("__getitem__", "__len__", "__eq__", "__add__", "__contains__", "steps", "without", "with_step"):
            self.assertIn(name, vars(Script))
        self.assertEqual(Script.__module__, "yearturned.scripts")

    def test_not_iterated_over(self):
        self.assertRaises(TypeError, list, Script(STEPS))


if __name__ == "__main__":
    unittest.main()
