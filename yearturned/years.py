"""Live years: ledgers with a script, whose deeds are played one by one and can be taken back."""

from yearturned.deeds import check_deeds
from yearturned.errors import NoNumber, NothingToUndo
from yearturned.integers import is_integer
from yearturned.ledgers import Ledgers
from yearturned.plays import carry_out, labels_and_ties, run_faults


class Years:
    """Live ledgers with a script.

    _words has the first word of each deed that is not taken back, _run_faults the faults of the last run
    among them, and _past, for each call that can be taken back, all that was so ahead of it. The ledgers
    are never changed, but exchanged, so those of the past stay as they were.
    """

    def __init__(self, script):
        self._script = script
        self._ledgers = Ledgers()
        self._words = []
        self._run_faults = []
        self._past = []

    def __len__(self):
        return len(self._words)

    @property
    def runs(self):
        """The number of runs that are not taken back."""
        return self._words.count("run")

    @property
    def script(self):
        """The script; it can be assigned, as change does."""
        return self._script

    @script.setter
    def script(self, value):
        self.change(value)

    def do(self, deed):
        """Play a deed; return what came of it."""
        return self.do_all([deed])[0]

    def do_all(self, deeds):
        """Play a list of deeds, all or none; return the list of what came of each."""
        first = len(self._words)
        check_deeds(deeds, first)
        ledgers = self._ledgers.copied()
        told = self._run_faults
        answers = []
        for index, deed in enumerate(deeds, start=first):
            ahead = labels_and_ties(ledgers)
            carry_out(ledgers, self._script, index, deed)
            answers.append(answer(ledgers, deed, ahead))
            if deed[0] == "run":
                told = run_faults(ledgers, ahead, index)
        self._keep_past()
        self._ledgers = ledgers
        self._run_faults = told
        self._words.extend([deed[0] for deed in deeds])
        return answers

    def undo(self):
        """Take back the last do, do_all or change that is not taken back."""
        if len(self._past) == 0:
            raise NothingToUndo("there is no call that can be taken back")
        self._script, self._ledgers, self._run_faults, count = self._past.pop()
        del self._words[count:]

    def change(self, script):
        """Go on with another script."""
        self._keep_past()
        self._script = script

    def old(self):
        """The list of the lines of the old ledger."""
        return self._ledgers.old_rows()

    def new(self):
        """The list of the lines of the new ledger."""
        return self._ledgers.new_rows()

    def faults(self):
        """The list of what was wrong behind the last run."""
        return list(self._run_faults)

    def made_of(self, number):
        """The number of the made line of an old line, or None."""
        if not is_integer(number, 1, len(self._ledgers.old_lines)):
            raise NoNumber(number)
        return self._ledgers.made_number(number)

    def _keep_past(self):
        self._past.append((self._script, self._ledgers, self._run_faults, len(self._words)))


def answer(ledgers, deed, ahead):
    """What comes of a deed that was played; ahead has the numbers of the new lines ahead of it."""
    word = deed[0]
    if word == "add":
        return len(ledgers.old_lines)
    if word == "own":
        return ledgers.last_new
    if word == "run":
        made = [number for number in ledgers.new_lines if number not in ahead]
        dropped = [number for number in ahead if number not in ledgers.new_lines]
        return made, dropped
    return None
