"""Searches that the tests make themselves, by tests/model.py: over short lists of deeds, and over changes."""

from tests.model import do, present, told_of_new, told_of_old
from yearturned.scripts import STEPS

RUN = ("run",)


def copied(ledger):
    return [{**line, "typed": list(line["typed"])} for line in ledger]


def deeds_here(old, new):
    """Every deed that can be played here, with the few values that tell lines from each other."""
    olds = [line["number"] for line in old]
    news = [line["number"] for line in present(new)]
    deeds = [("add", 1, 0), ("own", 1), RUN]
    for number in olds:
        deeds += [("label", number, 1), ("label", number, 2), ("moves", number, 0), ("moves", number, 5)]
        deeds += [("end", number)] + [("tie", number, other) for other in [None, *olds]]
    for number in news:
        deeds += [("write label", number, 1), ("write label", number, 3), ("write moves", number, 7)]
        deeds += [("write tie", number, other) for other in [None, *news]]
    return deeds


def played(steps, old, new, deed):
    """Both ledgers behind a deed, and the faults of it."""
    ahead, old, new = new, copied(old), copied(new)
    do(steps, old, new, deed)
    found = told_of_old(old, new, 0) + told_of_new(ahead, new, 0) if deed == RUN else []
    return old, new, found


def least_faulty(steps, most):
    """The number of deeds of the shortest list with faults, None if no list of at most so many has any."""
    places, seen = [([], [])], set()
    for count in range(1, most + 1):
        further = []
        for old, new in places:
            # Only a run has faults, so the last deed need not be tried as another one.
            for deed in deeds_here(old, new) if count < most else [RUN]:
                old_behind, new_behind, found = played(steps, old, new, deed)
                if found:
                    return count
                key = repr((old_behind, new_behind))
                if key not in seen:
                    seen.add(key)
                    further.append((old_behind, new_behind))
        places = further
    return None


def some_history(source, steps, count):
    """A list of deeds that can be played, and the faults of it; a run more often than the others."""
    old, new, deeds, found = [], [], [], []
    while len(deeds) < count:
        deed = RUN if source.random() < 0.25 else source.choice(deeds_here(old[-4:], new[-5:]))
        deeds.append(deed)
        old, new, more = played(steps, old, new, deed)
        found += more
    return deeds, found


def changed_once(steps):
    """All that one change makes of these steps."""
    for at in range(len(steps) + 1):
        for step in STEPS:
            yield steps[:at] + (step,) + steps[at:]
    for at in range(len(steps)):
        yield steps[:at] + steps[at + 1:]
        for step in STEPS:
            if step != steps[at]:
                yield steps[:at] + (step,) + steps[at + 1:]


def least_changes(steps, holds, most):
    """The least number of changes behind which it holds, None if it takes more than so many."""
    layer, seen = [steps], {steps}
    for count in range(most + 1):
        if any(holds(one) for one in layer):
            return count
        if count < most:
            further = []
            for one in layer:
                for other in changed_once(one):
                    if other not in seen:
                        seen.add(other)
                        further.append(other)
            layer = further
    return None


def distance(one, other):
    """The least number of changes that make the other of one."""
    row = list(range(len(other) + 1))
    for at, step in enumerate(one, 1):
        upper, row = row, [at]
        for to, wished in enumerate(other, 1):
            row.append(min(upper[to] + 1, row[to - 1] + 1, upper[to - 1] + (step != wished)))
    return row[-1]
