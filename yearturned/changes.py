"""The fewest changes that make a script right, and how many right scripts there are."""

from heapq import heappop, heappush

from yearturned.errors import NoNumber
from yearturned.integers import is_integer
from yearturned.marks import ALL_MARKS, NO_MARKS, marks_behind, marks_of
from yearturned.scripts import MOST_STEPS, STEPS, Script

MOST_COUNTED = 200

# The steps that a change puts in, one for each mark. Another step can be left out, or one of these can
# stand in its place, and there are as many changes and marks and as few steps.
WORTHY = (("make", "standing"), ("start", "all"), ("label", "free"), ("tie", "free"), ("drop",))


def fewest_changes(script):
    """The least number of changes that make the script right."""
    changes, _ = nearest_right(script.steps())
    return changes


def mended(script):
    """A right script so many changes away; None if none such has at most twelve steps."""
    _, steps = nearest_right(script.steps())
    if len(steps) > MOST_STEPS:
        return None
    return Script(steps)


def nearest_right(steps):
    """The least number of changes that make the steps right, and the shortest steps that come of so many."""
    # A way has its changes, its length, how many of the steps are done with, and the marks of what it
    # built. The best way is taken first, so the first to come to a place with these marks is the best there.
    queue = [(0, 0, 0, NO_MARKS, ())]
    seen = set()
    while True:
        way = heappop(queue)
        changes, _, at, marks, built = way
        if at == len(steps) and marks == ALL_MARKS:
            return changes, built
        if (at, marks) not in seen:
            seen.add((at, marks))
            for longer in ways_on(steps, way):
                heappush(queue, longer)


def ways_on(steps, way):
    """The ways that lead on from a way: a step is put in, exchanged, taken out or kept."""
    changes, length, at, marks, built = way
    moves = [(1, at, (step,)) for step in WORTHY]
    if at < len(steps):
        moves.extend([(1, at + 1, (step,)) for step in WORTHY])
        moves.append((1, at + 1, ()))
        moves.append((0, at + 1, (steps[at],)))
    ways = []
    for change, to, added in moves:
        behind = marks_of(added, marks)
        if behind is not None:
            ways.append((changes + change, length + len(added), to, behind, built + added))
    return ways


def count_right(number):
    """How many scripts of so many steps are right."""
    if not is_integer(number, 0, MOST_COUNTED):
        raise NoNumber(number)
    counts = {NO_MARKS: 1}
    for _ in range(number):
        counts = counts_behind(counts)
    return counts.get(ALL_MARKS, 0)


def counts_behind(counts):
    """How many scripts have which marks, by how many of one step less have which; without spoiled ones."""
    behind = {}
    for marks, many in counts.items():
        for step in STEPS:
            longer = marks_behind(marks, step)
            if longer is not None:
                behind[longer] = behind.get(longer, 0) + many
    return behind


def can_begin(script):
    """The least number of steps to put behind the script's steps to make a right script, or None."""
    marks = marks_of(script.steps())
    if marks is None:
        return None
    # No step gives two marks, and behind the others each worthy one gives its own and takes none away.
    return marks.count(False)
