"""A second writing of points [16] and [17]: it keeps all calls, and plays them anew for each question."""

from tests.model import do, history, made_of, present, told_of_new, told_of_old
from tests.search import copied


class Shadow:
    """Years as a list of calls: each is a list of (steps, deed), or the steps of a changed script."""

    def __init__(self, steps):
        self.first = steps
        self.calls = []

    def steps(self):
        changed = [call for call in self.calls if isinstance(call, tuple)]
        return changed[-1] if changed else self.first

    def played(self):
        return [pair for call in self.calls if isinstance(call, list) for pair in call]

    def do_all(self, deeds):
        """The answers to these deeds, or the index of the first that names a line that is not there."""
        steps = self.steps()
        pairs = self.played() + [(steps, deed) for deed in deeds]
        answers = self.replay(pairs)[2]
        if isinstance(answers, int):
            return answers
        self.calls.append([(steps, deed) for deed in deeds])
        return answers[len(pairs) - len(deeds):]

    def replay(self, pairs):
        """Both ledgers, the answers, and the faults of the last run."""
        old, new, answers, told = [], [], [], []
        for index, (steps, deed) in enumerate(pairs):
            if no_line(old, new, deed):
                return old, new, index, told
            ahead = copied(new)
            do(steps, old, new, deed)
            answers.append(answered(old, ahead, new, deed))
            if deed == ("run",):
                told = told_of_old(old, new, index) + told_of_new(ahead, new, index)
        return old, new, answers, told

    def told(self):
        """All that years tell: old, new, faults, made_of of each old line, len, runs, the steps."""
        pairs = self.played()
        old, new, _, told = self.replay(pairs)
        made = [made_of(new, line["number"]) for line in old]
        return (
            [tuple(line[key] for key in ("number", "label", "start", "moves", "tie", "standing")) for line in old],
            [tuple(line[key] for key in ("number", "label", "start", "moves", "tie", "source"))
             for line in present(new)],
            told,
            [line["number"] if line is not None else None for line in made],
            len(pairs),
            sum(1 for _, deed in pairs if deed == ("run",)),
            self.steps(),
        )


def no_line(old, new, deed):
    ledger = new if deed[0].startswith("write") else old
    there = [None, *[line["number"] for line in present(ledger)]]
    if deed[0] in ("add", "own", "run"):
        return False
    return deed[1] not in there or (deed[0] in ("tie", "write tie") and deed[2] not in there)


def answered(old, ahead, new, deed):
    if deed[0] == "add":
        return len(old)
    if deed[0] == "own":
        return len(new)
    if deed != ("run",):
        return None
    before = [line["number"] for line in present(ahead)]
    behind = [line["number"] for line in present(new)]
    return ([number for number in behind if number not in before],
            [number for number in before if number not in behind])


def told_by(years):
    """The same of years themselves."""
    return (years.old(), years.new(), years.faults(), [years.made_of(row[0]) for row in years.old()], len(years),
            years.runs, years.script.steps())


def plain(steps, deeds):
    """What play and faults tell of the same deeds: (old, new, the faults of the last run)."""
    old, new, found = history(steps, deeds)
    runs = [index for index, deed in enumerate(deeds) if deed == ("run",)]
    return old, new, [fault for fault in found if runs and fault[1] == runs[-1]]
