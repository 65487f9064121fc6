"""Scripts: the steps that make the next year's ledger, in order."""

from yearturned.errors import NoIndex, NoStep
from yearturned.integers import is_integer

MOST_STEPS = 12

STEPS = (
    ("make", "all"),
    ("make", "standing"),
    ("start", "new"),
    ("start", "all"),
    ("start", "free"),
    ("label", "new"),
    ("label", "all"),
    ("label", "free"),
    ("tie", "new"),
    ("tie", "all"),
    ("tie", "free"),
    ("drop",),
)


def is_step(value):
    """Whether a value is one of the twelve steps."""
    # Only strings are compared: a value of another kind may call itself equal to anything.
    return isinstance(value, tuple) and all([isinstance(word, str) for word in value]) and value in STEPS


class Script:
    """A script of at most twelve steps; it is never changed."""

    def __init__(self, steps):
        if not isinstance(steps, tuple):
            raise NoStep(0)
        for index, step in enumerate(steps):
            if index >= MOST_STEPS or not is_step(step):
                raise NoStep(index)
        self._steps = list(steps)

    def __len__(self):
        return len(self._steps)

    def __eq__(self, other):
        return isinstance(other, Script) and self._steps == other._steps

    def __getitem__(self, at):
        if not self._has(at):
            raise NoStep(at)
        return self._steps[at]

    # Without this, Python would iterate by index and end in a NoStep.
    def __iter__(self):
        raise TypeError("a script is not iterated over; its steps() are")

    def __contains__(self, x):
        return is_step(x) and x in self._steps

    def __add__(self, other):
        if not isinstance(other, Script):
            return NotImplemented
        return Script(self.steps() + other.steps())

    def steps(self):
        """The tuple of the steps."""
        return tuple(self._steps)

    def without(self, index):
        """The script without the step at this index."""
        if not self._has(index):
            raise NoStep(index)
        steps = self.steps()
        return Script(steps[:index] + steps[index + 1:])

    def with_step(self, index, step):
        """The script with a step put in ahead of the one at this index, or at the end."""
        if not is_integer(index, 0, len(self._steps)):
            raise NoIndex(index)
        steps = self.steps()
        # The longer script itself finds what is no step, ahead of what stands behind twelve others.
        return Script(steps[:index] + (step,) + steps[index:])

    def _has(self, index):
        return is_integer(index, 0, len(self._steps) - 1)
