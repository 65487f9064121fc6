"""Points [13], [14] and [15]: fewest changes, how many scripts are right, what can begin a right one."""

import random
import unittest
from itertools import product

from tests.search import changed_once, distance, least_changes, least_faulty
from tests.test_right import ALL, DROP, LABEL, RIGHT, STANDING, START, TIE, WRONG, right_steps, some_steps
from tests.values import ODD
from yearturned.changes import can_begin, count_right, fewest_changes, mended
from yearturned.errors import NoNumber
from yearturned.right import is_right
from yearturned.scripts import STEPS, Script

ALL_LABEL = ("label", "all")
ALL_TIE = ("tie", "all")
HARMLESS = [step for step in STEPS if step not in (ALL_LABEL, ALL_TIE)]

# Scripts by the number of changes that they need.
NEEDS = {
    0: RIGHT,
    1: [(STANDING, START, LABEL, TIE), (START, LABEL, TIE, DROP), (STANDING, START, LABEL, TIE, DROP, ALL_LABEL),
        (ALL_TIE, STANDING, START, LABEL, TIE, DROP), (STANDING, START, ALL_LABEL, TIE, DROP),
        (DROP, ALL, START, LABEL, TIE), (ALL, START, LABEL, TIE), (TIE, STANDING, START, LABEL, DROP),
        (STANDING, START, LABEL, TIE, DROP, ALL), (STANDING, START, LABEL, TIE) + (("tie", "new"),) * 8],
    2: [(STANDING, START, LABEL), (STANDING, START, ALL_LABEL, TIE), (ALL, START, LABEL, ALL_TIE),
        (STANDING, START, LABEL, TIE, DROP, ALL_TIE, ALL_TIE), (TIE, ALL, START, LABEL)],
    3: [(STANDING, DROP), (ALL, TIE), (STANDING, START, LABEL, TIE, DROP, ALL_TIE, ALL_LABEL, ALL_TIE)],
    4: [(DROP,), (TIE,), (ALL,), (DROP, DROP), (TIE,) * 12],
    5: [(), (("start", "new"),), (("label", "new"),) * 12, (ALL_LABEL,), (ALL_TIE,) * 5],
    11: [(ALL_LABEL, ALL_TIE) * 5 + (ALL_LABEL, TIE)],
    12: [(ALL_LABEL,) * 12, (ALL_LABEL, ALL_TIE) * 6],
}

# No step can be taken out or exchanged for what is missing, which has to stand between or behind two needed ones.
TOO_LONG = [
    ((START, LABEL) + (("start", "new"),) * 8 + (ALL, TIE), 1),
    ((START,) * 10 + (ALL, TIE), 2),
    ((LABEL,) * 10 + (ALL, TIE), 2),
    ((("start", "new"),) * 10 + (ALL, TIE), 3),
]


def right(steps):
    return is_right(Script(steps)) if len(steps) <= 12 else right_by_search(steps)


def right_by_search(steps):
    return least_faulty(steps, 5) is None


class Fewest(unittest.TestCase):
    def test_known_ones(self):
        for count, scripts in NEEDS.items():
            for steps in scripts:
                answer = fewest_changes(Script(steps))
                self.assertIs(type(answer), int)
                self.assertEqual(answer, count, steps)

    def test_none_just_for_right_ones(self):
        source = random.Random(21)
        for steps in [some_steps(source) for _ in range(500)]:
            self.assertIs(fewest_changes(Script(steps)) == 0, is_right(Script(steps)), steps)

    def test_none_at_all(self):
        # A script without steps gets steps put in, so no shorter script than its answer is right.
        answer = fewest_changes(Script(()))
        self.assertEqual(answer, 5)
        for count in range(answer):
            self.assertFalse(any(right(steps) for steps in product(STEPS, repeat=count)))

    def test_all_changes_of_short_scripts(self):
        source = random.Random(22)
        for steps in [some_steps(source) for _ in range(400)]:
            steps = steps[:6]
            answer = fewest_changes(Script(steps))
            if answer <= 2:
                self.assertEqual(least_changes(steps, right, 2), answer, steps)
            else:
                self.assertIsNone(least_changes(steps, right, 1), steps)

    def test_no_fewer_than_two(self):
        source = random.Random(23)
        for steps in [tuple(source.choices(STEPS, k=4)) for _ in range(20)]:
            expected = least_changes(steps, right, 2)
            answer = fewest_changes(Script(steps))
            self.assertEqual(answer if answer <= 2 else None, expected, steps)

    def test_three_changes(self):
        for steps in [(STANDING, DROP), (ALL, TIE), (LABEL, START)]:
            self.assertEqual(least_changes(steps, right, 3), 3)
            self.assertEqual(fewest_changes(Script(steps)), 3)

    def test_one_change_is_one_more_or_less(self):
        source = random.Random(24)
        for steps in [some_steps(source) for _ in range(20)]:
            answer = fewest_changes(Script(steps))
            near = [fewest_changes(Script(other)) for other in changed_once(steps) if len(other) <= 12]
            self.assertLessEqual(max(near), answer + 1)
            self.assertGreaterEqual(min(near), answer - 1)

    def test_beyond_twelve_steps(self):
        for steps, count in TOO_LONG:
            self.assertEqual(fewest_changes(Script(steps)), count)
        steps = TOO_LONG[0][0]
        self.assertEqual(least_changes(steps, right, 1), 1)


class Mended(unittest.TestCase):
    def assert_mended(self, steps):
        script = Script(steps)
        other = mended(script)
        self.assertIs(type(other), Script, steps)
        self.assertLessEqual(len(other), 12)
        self.assertTrue(is_right(other), steps)
        self.assertIsNone(least_faulty(other.steps(), 5), steps)
        self.assertEqual(distance(steps, other.steps()), fewest_changes(script), steps)
        self.assertEqual(script.steps(), steps)

    def test_known_ones(self):
        for scripts in NEEDS.values():
            for steps in scripts:
                self.assert_mended(steps)

    def test_right_ones_stay(self):
        for steps in RIGHT + right_steps(random.Random(25), 50):
            self.assertEqual(mended(Script(steps)), Script(steps))

    def test_all_short_scripts(self):
        for count in range(3):
            for steps in product(STEPS, repeat=count):
                self.assert_mended(steps)

    def test_longer_ones(self):
        source = random.Random(26)
        for _ in range(300):
            steps = some_steps(source)
            if len(steps) + fewest_changes(Script(steps)) <= 12:
                self.assert_mended(steps)

    def test_none(self):
        for steps, _ in TOO_LONG:
            self.assertIsNone(mended(Script(steps)), steps)

    def test_twelve_steps_with_one_that_spoils(self):
        for spoiling in (ALL_LABEL, ALL_TIE):
            for at in range(10):
                fill = [START, LABEL] + [("start", "new")] * 7
                fill.insert(at, spoiling)
                steps = (*fill, ALL, TIE)
                self.assertEqual(fewest_changes(Script(steps)), 2)
                self.assert_mended(steps)

    def test_none_only_where_there_is_none(self):
        source = random.Random(27)
        nones = []
        for end in [(ALL, TIE), (ALL, DROP), (STANDING, TIE), (STANDING, DROP)] * 25:
            fill = [source.choice([START, LABEL, TIE, ("tie", "new")]) for _ in range(8)]
            fill += source.choices(HARMLESS, k=source.randint(0, 2))
            source.shuffle(fill)
            steps = (*fill[:8], START, LABEL, *end)
            if fewest_changes(Script(steps)) == 1:
                there = [other for other in changed_once(steps) if len(other) <= 12 and right(other)]
                self.assertEqual(mended(Script(steps)) is None, there == [], steps)
                nones.append(there == [])
        self.assertGreater(nones.count(True), 5)
        self.assertGreater(nones.count(False), 5)

    def test_none_two_changes_away(self):
        steps = TOO_LONG[1][0]
        self.assertEqual(least_changes(steps, lambda other: len(other) <= 12 and right(other), 1), None)
        near = {other for one in changed_once(steps) for other in changed_once(one) if len(other) <= 12}
        self.assertFalse(any(right(other) for other in near))

    def test_of_twelve_steps(self):
        source = random.Random(28)
        for _ in range(200):
            steps = tuple(source.choices(STEPS, k=12))
            if mended(Script(steps)) is not None:
                self.assert_mended(steps)


class CountRight(unittest.TestCase):
    def test_all_scripts_of_that_length(self):
        for number in range(5):
            many = sum(1 for steps in product(STEPS, repeat=number) if is_right(Script(steps)))
            self.assertEqual(count_right(number), many)
        # Steps that spoil a script are left out here, as no right script has one.
        for number, expected in ((5, 200), (6, 8040)):
            many = sum(1 for steps in product(HARMLESS, repeat=number) if is_right(Script(steps)))
            self.assertEqual((count_right(number), many), (expected, expected))

    def test_no_right_script_has_one_that_spoils(self):
        for steps in RIGHT:
            for at in range(len(steps)):
                for spoiling in (ALL_LABEL, ALL_TIE):
                    self.assertLessEqual(least_faulty(steps[:at] + (spoiling,) + steps[at:], 4), 4)

    def test_shares_of_long_scripts(self):
        source = random.Random(29)
        for number in (8, 12):
            tried = 20000
            many = sum(is_right(Script(tuple(source.choices(HARMLESS, k=number)))) for _ in range(tried))
            self.assertAlmostEqual(many / tried, count_right(number) / 10 ** number, delta=0.02)

    def test_great_ones_exactly(self):
        for number in range(201):
            answer = count_right(number)
            self.assertIs(type(answer), int)
            self.assertEqual(answer, counted(number), number)

    def test_by_name(self):
        self.assertEqual(count_right(number=5), 200)

    def test_no_number(self):
        for wrong in [True, False, None, "", "5", "a", -1, -200, 201, 202, 10 ** 30, 5.0, (5,), [5], {}, b"5", *ODD]:
            with self.assertRaises(NoNumber) as caught:
                count_right(wrong)
            self.assertIs(type(caught.exception), NoNumber)
            self.assertIs(caught.exception.number, wrong)


def counted(number):
    """How many scripts are right, by a count that reads them from their end.

    Read so, the first of "drop" and ("make", "all") must be a "drop"; then or before comes a ("tie", "free"), and
    a "make" behind it; and there is a "start" that is not "new", and a ("label", "free").
    """
    counts = {("", "", False, False): 1}
    for _ in range(number):
        ahead, counts = counts, {}
        for place, many in ahead.items():
            for step in HARMLESS:
                before = read_back(place, step)
                counts[before] = counts.get(before, 0) + many
    return counts.get(("drop", "tie make", True, True), 0)


def read_back(place, step):
    last, found, start, label = place
    if last == "" and step in (DROP, ALL):
        last = step[0]
    if found == "" and step == TIE:
        found = "tie"
    elif found == "tie" and step in (ALL, STANDING):
        found = "tie make"
    return last, found, start or step in (START, ("start", "free")), label or step == LABEL


class CanBegin(unittest.TestCase):
    def assert_can(self, steps, count, puts=STEPS):
        """That so many steps behind these are enough, and fewer are not."""
        self.assertEqual(can_begin(Script(steps)), count, steps)
        for fewer in range(count):
            self.assertFalse(any(right(steps + more) for more in product(puts, repeat=fewer)), steps)
        self.assertTrue(any(right(steps + more) for more in product(puts, repeat=count)), steps)

    def test_right_ones(self):
        for steps in RIGHT:
            self.assertEqual(can_begin(Script(steps)), 0)
            self.assertIs(type(can_begin(Script(steps))), int)

    def test_each_number(self):
        for steps, count in [
            ((), 5), ((START,), 4), ((TIE,), 5), ((DROP,), 4), ((ALL,), 4), ((STANDING,), 4), ((DROP, ALL), 4),
            ((ALL, DROP), 3), ((STANDING, TIE), 3), ((TIE, STANDING), 4), ((ALL, TIE, DROP, LABEL), 1),
            ((STANDING, TIE, DROP, LABEL), 1), ((DROP, TIE, LABEL, START), 2), ((DROP, START, LABEL, ALL, TIE), 1),
            ((DROP, START, LABEL, TIE, ALL), 2), ((STANDING, START, LABEL, TIE, DROP, ALL), 1),
            ((("start", "new"), ("label", "new"), ("tie", "new")), 5), ((STANDING, TIE, ("start", "free")), 2),
        ]:
            self.assert_can(steps, count, HARMLESS)

    def test_all_short_scripts(self):
        for count in range(3):
            for steps in product(STEPS, repeat=count):
                answer = can_begin(Script(steps))
                self.assertEqual(answer is None, ALL_LABEL in steps or ALL_TIE in steps)
                if answer is not None and answer <= 3:
                    self.assert_can(steps, answer, HARMLESS)

    def test_longer_scripts(self):
        source = random.Random(30)
        for _ in range(150):
            steps = some_steps(source)[:10]
            answer = can_begin(Script(steps))
            if answer is not None and answer <= 2:
                self.assert_can(steps, answer)
            else:
                self.assertFalse(any(right(steps + more) for more in product(STEPS, repeat=2)), steps)

    def test_none(self):
        for spoiling in (ALL_LABEL, ALL_TIE):
            for steps in [(), *[steps[:11] for steps in RIGHT + WRONG[3]]]:
                for at in range(len(steps) + 1):
                    self.assertIsNone(can_begin(Script(steps[:at] + (spoiling,) + steps[at:])))
        # No step behind it helps.
        for more in product(STEPS, repeat=2):
            self.assertFalse(right((STANDING, START, LABEL, TIE, DROP, ALL_TIE) + more))

    def test_beyond_twelve_steps(self):
        for steps, count in [((TIE,) * 12, 5), ((("start", "new"),) * 12, 5), ((DROP,) * 11 + (ALL,), 4),
                             ((START,) * 11 + (LABEL,), 3), ((STANDING,) * 8 + (START, LABEL, TIE, ALL), 1)]:
            self.assertEqual(can_begin(Script(steps)), count)

    def test_the_script_stays(self):
        script = Script((ALL, TIE))
        can_begin(script)
        fewest_changes(script)
        mended(script)
        self.assertEqual(script.steps(), (ALL, TIE))


if __name__ == "__main__":
    unittest.main()
