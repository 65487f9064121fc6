"""Points [11] and [12]: right scripts, shortest lists of deeds with faults, needless steps."""

import random
import unittest
from itertools import permutations, product

from tests.model import history
from tests.search import least_faulty, some_history
from yearturned.errors import NotRight
from yearturned.plays import faults, play
from yearturned.right import first_fault, is_right, needless
from yearturned.scripts import STEPS, Script

RUN = ("run",)
DROP = ("drop",)
ALL = ("make", "all")
STANDING = ("make", "standing")
START = ("start", "all")
LABEL = ("label", "free")
TIE = ("tie", "free")

# Steps with which long scripts are right now and then.
HARMLESS = [step for step in STEPS if step not in (("label", "all"), ("tie", "all"))]

RIGHT = [
    (STANDING, START, LABEL, TIE, DROP),
    (DROP, LABEL, START, STANDING, TIE),
    (STANDING, ("start", "free"), LABEL, TIE, DROP),
    (ALL, TIE, DROP, LABEL, START),
    (ALL, DROP, TIE, LABEL, START),
    (TIE, DROP, ALL, START, DROP, LABEL, STANDING, TIE),
    (DROP, DROP, ALL, ALL, DROP, DROP, TIE, TIE, LABEL, LABEL, START, START),
    (STANDING, START, LABEL, TIE, DROP, ("start", "new"), ("label", "new"), ("tie", "new"), STANDING, STANDING,
     ("start", "free"), TIE),
]

# Scripts by the number of deeds of a shortest list with faults, in every way in which they can fail.
WRONG = {
    2: [(), (DROP,), (START, LABEL, TIE, DROP), (("label", "all"), ("tie", "all")), (("tie", "new"),) * 12],
    3: [(ALL,), (STANDING,), (STANDING, START, LABEL, DROP), (TIE, STANDING, START, LABEL, DROP),
        (DROP, ALL, START, LABEL, TIE), (ALL, START, LABEL, TIE), (STANDING, START, LABEL, TIE, DROP, ALL),
        (("tie", "all"), ALL, DROP), (ALL, DROP, STANDING, ALL, TIE, START, LABEL)],
    4: [(STANDING, START, LABEL, TIE), (STANDING, LABEL, TIE, DROP), (STANDING, START, TIE, DROP),
        (STANDING, ("start", "new"), LABEL, TIE, DROP), (STANDING, START, ("label", "new"), TIE, DROP),
        (STANDING, START, LABEL, ("tie", "new"), DROP), (STANDING, START, LABEL, ("tie", "all"), DROP),
        (STANDING, START, ("label", "all"), TIE, DROP), (STANDING, START, LABEL, ("label", "all"), TIE, DROP),
        (("label", "all"), STANDING, START, LABEL, TIE, DROP), (("tie", "all"), STANDING, START, LABEL, TIE, DROP),
        (STANDING, START, LABEL, TIE, DROP, ("tie", "all"), TIE), (ALL, DROP, LABEL, TIE), (ALL, DROP, START, TIE),
        (STANDING, START, LABEL, TIE, ("tie", "new")) + (STANDING,) * 7],
    5: [(TIE, STANDING, START, LABEL, ("tie", "new"), DROP), (DROP, TIE, STANDING, ("tie", "new"), LABEL, START),
        (TIE, ALL, ("tie", "new"), START, DROP, LABEL), (TIE, TIE, ALL, DROP, STANDING, START, LABEL, ("tie", "new"))],
}


def some_steps(source):
    """Steps of a script of any length, often such that it is right or nearly so."""
    if source.random() < 0.2:
        return tuple(source.choices(STEPS, k=source.randint(0, 12)))
    steps = [source.choice([ALL, STANDING]), START, LABEL, TIE, DROP]
    source.shuffle(steps)
    steps = steps[:source.randint(3, 5)]
    for _ in range(source.randint(0, 7)):
        steps.insert(source.randint(0, len(steps)), source.choice(HARMLESS))
    return tuple(steps)


def right_steps(source, many):
    """Different steps of scripts that are told to be right."""
    found = {}
    while len(found) < many:
        steps = some_steps(source)
        if is_right(Script(steps)):
            found[steps] = True
    return list(found)


class Case(unittest.TestCase):
    def assert_shortest(self, steps):
        """What first_fault promises, of steps that are not right; the number of deeds."""
        deeds = first_fault(Script(steps))
        self.assertIs(type(deeds), list, steps)
        self.assertIsInstance(history(steps, deeds), tuple)
        play(Script(steps), deeds)
        self.assertNotEqual(faults(Script(steps), deeds), [])
        self.assertNotEqual(history(steps, deeds)[2], [])
        for count in range(len(deeds)):
            self.assertEqual(faults(Script(steps), deeds[:count]), [])
        self.assertIsNone(least_faulty(steps, len(deeds) - 1), steps)
        return len(deeds)


class FirstFault(Case):
    def test_right_ones(self):
        for steps in RIGHT:
            self.assertIsNone(first_fault(Script(steps)))
            self.assertIs(is_right(Script(steps)), True)
            self.assertIsNone(least_faulty(steps, 5))

    def test_in_every_way(self):
        for count, scripts in WRONG.items():
            for steps in scripts:
                self.assertEqual(self.assert_shortest(steps), count, steps)
                self.assertEqual(least_faulty(steps, count), count, steps)
                self.assertIs(is_right(Script(steps)), False)

    def test_all_scripts_of_two_steps(self):
        for count in range(3):
            for steps in product(STEPS, repeat=count):
                self.assert_shortest(steps)

    def test_all_orders_of_what_is_needed(self):
        for steps in permutations((ALL, START, LABEL, TIE, DROP)):
            right = steps.index(ALL) < steps.index(TIE) and steps.index(ALL) < steps.index(DROP)
            self.assertIs(is_right(Script(steps)), right)
            self.assertEqual(least_faulty(steps, 5) is None, right)
        for steps in permutations((STANDING, START, LABEL, TIE, DROP)):
            right = steps.index(STANDING) < steps.index(TIE)
            self.assertIs(is_right(Script(steps)), right)
            self.assertEqual(least_faulty(steps, 5) is None, right)

    def test_longer_scripts(self):
        source = random.Random(11)
        lengths = {}
        for _ in range(600):
            steps = some_steps(source)
            if is_right(Script(steps)):
                self.assertIsNone(first_fault(Script(steps)))
                self.assertIsNone(least_faulty(steps, 5), steps)
                lengths[None] = True
            else:
                lengths[self.assert_shortest(steps)] = True
        self.assertEqual(set(lengths), {None, 2, 3, 4, 5})

    def test_longer_searches(self):
        for steps in right_steps(random.Random(12), 5):
            self.assertIsNone(least_faulty(steps, 6), steps)

    def test_new_lists(self):
        for scripts in WRONG.values():
            one, other = first_fault(Script(scripts[0])), first_fault(Script(scripts[0]))
            self.assertEqual(one, other)
            self.assertIsNot(one, other)
            one.clear()
            self.assertEqual(first_fault(Script(scripts[0])), other)


class IsRight(Case):
    def test_just_where_there_is_no_first_fault(self):
        source = random.Random(13)
        short = [steps for count in range(4) for steps in product(STEPS, repeat=count)]
        for steps in short + [some_steps(source) for _ in range(3000)]:
            answer = is_right(Script(steps))
            self.assertIs(type(answer), bool)
            self.assertIs(answer, first_fault(Script(steps)) is None, steps)

    def test_none_is_shorter_than_five_steps(self):
        for steps in product(STEPS, repeat=4):
            self.assertFalse(is_right(Script(steps)))

    def test_no_faults_in_long_histories(self):
        source = random.Random(14)
        for steps in right_steps(source, 150):
            deeds, found = some_history(source, steps, 50)
            self.assertEqual(found, [], (steps, deeds))
            self.assertEqual(faults(Script(steps), deeds), [], (steps, deeds))
        for steps in RIGHT:
            deeds, found = some_history(source, steps, 200)
            self.assertEqual(found, [], (steps, deeds))
            self.assertEqual(faults(Script(steps), deeds), [], (steps, deeds))

    def test_the_script_stays(self):
        for steps in [*RIGHT, *WRONG[3]]:
            script = Script(steps)
            is_right(script)
            first_fault(script)
            self.assertEqual(script.steps(), steps)


class Needless(Case):
    def test_none(self):
        for steps in RIGHT[:5]:
            self.assertEqual(needless(Script(steps)), [])

    def test_some(self):
        for steps, expected in [
            ((DROP, STANDING, START, LABEL, TIE, DROP), [0, 5]),
            ((DROP, ALL, START, LABEL, TIE, DROP), [0]),
            ((STANDING, TIE, STANDING, START, LABEL, TIE, DROP), [0, 1, 2, 5]),
            ((TIE, STANDING, START, LABEL, TIE, DROP), [0]),
            ((STANDING, ALL, START, LABEL, TIE, DROP), [0, 1]),
            ((STANDING, TIE, ALL, START, LABEL, DROP), [2]),
            ((START, ("start", "free"), STANDING, LABEL, TIE, DROP), [0, 1]),
            ((("start", "new"), ("label", "new"), ("tie", "new"), STANDING, START, LABEL, TIE, DROP), [0, 1, 2]),
            (RIGHT[6], list(range(12))),
            (RIGHT[7], [0, 1, 3, 5, 6, 7, 8, 9, 10, 11]),
            ((ALL, DROP, TIE, LABEL, START) + (LABEL,) * 7, [3, *range(5, 12)]),
        ]:
            self.assertEqual(needless(Script(steps)), expected, steps)

    def test_each_alone(self):
        for steps in right_steps(random.Random(15), 60):
            expected = [at for at in range(len(steps)) if least_faulty(steps[:at] + steps[at + 1:], 5) is None]
            answer = needless(Script(steps))
            self.assertIs(type(answer), list)
            self.assertEqual(answer, expected, steps)

    def test_new_lists(self):
        script = Script(RIGHT[6])
        self.assertIsNot(needless(script), needless(script))
        needless(script).clear()
        self.assertEqual(needless(script), list(range(12)))
        self.assertEqual(script.steps(), RIGHT[6])

    def test_not_right(self):
        for scripts in WRONG.values():
            for steps in scripts:
                with self.assertRaises(NotRight) as caught:
                    needless(Script(steps))
                self.assertIs(type(caught.exception), NotRight)
                self.assertEqual([type(field) for field in caught.exception.args], [str])


if __name__ == "__main__":
    unittest.main()
