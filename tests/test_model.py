"""Points [6] to [10]: many histories, played by the package and by tests/model.py."""

import random
import unittest
from itertools import permutations, product

from tests.model import history
from yearturned.errors import NoLine
from yearturned.plays import faults, play
from yearturned.scripts import STEPS, Script

# Rows with small numbers, so that lines are met again and again.
SMALL = [
    ("add", 1, 5), ("label", 1, 2), ("moves", 1, 3), ("tie", 1, 1), ("end", 1), ("own", 3), ("write label", 1, 4),
    ("write moves", 1, 6), ("write tie", 1, 1), ("run",),
]


def some_deed(source):
    """A deed over lines 1 to 5; a run and a new line more often than the others."""
    number, other = source.randint(1, 5), source.choice([None, 1, 2, 3, 4, 5])
    label, amount = source.randint(0, 3), source.randint(-2, 2)
    return source.choice([
        ("add", label, amount), ("add", label, amount), ("own", label), ("label", number, label),
        ("moves", number, amount), ("tie", number, other), ("tie", number, other), ("end", number),
        ("write label", number, label), ("write moves", number, amount), ("write tie", number, other),
        ("write tie", number, other), ("run",), ("run",), ("run",), ("run",),
    ])


def playable(source, steps, count):
    """A list of deeds none of which names a line that is not there."""
    deeds = []
    while len(deeds) < count:
        deed = some_deed(source)
        if not isinstance(history(steps, deeds + [deed]), int):
            deeds.append(deed)
    return deeds


class Model(unittest.TestCase):
    def compare(self, steps, deeds):
        script = Script(steps)
        expected = history(steps, deeds)
        if isinstance(expected, int):
            for call in (play, faults):
                with self.assertRaises(NoLine) as caught:
                    call(script, deeds)
                self.assertEqual(caught.exception.index, expected, (steps, deeds))
        else:
            self.assertEqual((*play(script, deeds), faults(script, deeds)), expected, (steps, deeds))

    def test_all_orders_of_small_deeds(self):
        steps = (("make", "standing"), ("start", "all"), ("label", "all"), ("tie", "all"), ("drop",))
        for deeds in permutations(SMALL, 4):
            self.compare(steps, [*deeds, ("run",)])

    def test_all_scripts_of_two_steps(self):
        source = random.Random(1)
        for steps in product(STEPS, repeat=2):
            for _ in range(5):
                self.compare(steps, playable(source, steps, 12))

    def test_longer_scripts(self):
        source = random.Random(2)
        for count in range(13):
            for _ in range(40):
                steps = tuple(source.choices(STEPS, k=count))
                self.compare(steps, playable(source, steps, 25))

    def test_scripts_that_make_first(self):
        source = random.Random(3)
        for _ in range(300):
            steps = (STEPS[source.randint(0, 1)], *source.choices(STEPS, k=source.randint(1, 6)))
            self.compare(steps, playable(source, steps, 30))

    def test_with_lines_that_are_not_there(self):
        source = random.Random(4)
        for _ in range(1000):
            steps = tuple(source.choices(STEPS, k=source.randint(0, 5)))
            self.compare(steps, [("add", 0, 0), ("own", 0), *[some_deed(source) for _ in range(15)]])


if __name__ == "__main__":
    unittest.main()
