"""Histories: what a list of deeds leaves behind, and what is wrong behind its runs."""

from yearturned.deeds import check_deeds, do_deed, has_lines
from yearturned.errors import NoLine
from yearturned.ledgers import Ledgers
from yearturned.runs import run_script


def play(script, deeds):
    """Play a list of deeds; return the lists of the old and of the new lines at the end."""
    check_deeds(deeds)
    ledgers = Ledgers()
    for index, deed in enumerate(deeds):
        carry_out(ledgers, script, index, deed)
    return ledgers.old_rows(), ledgers.new_rows()


def faults(script, deeds):
    """Play a list of deeds; return the list of what is wrong behind its runs."""
    check_deeds(deeds)
    ledgers = Ledgers()
    found = []
    for index, deed in enumerate(deeds):
        ahead = labels_and_ties(ledgers)
        carry_out(ledgers, script, index, deed)
        if deed[0] == "run":
            found.extend(run_faults(ledgers, ahead, index))
    return found


def carry_out(ledgers, script, index, deed):
    """Carry out the deed with this index; NoLine if a line that it names is not there."""
    if not has_lines(ledgers, deed):
        raise NoLine(index)
    if deed[0] == "run":
        run_script(ledgers, script)
    else:
        do_deed(ledgers, deed)


def labels_and_ties(ledgers):
    """The label and the tie of each new line, by its number."""
    return {line.number: (line.label, line.tie) for line in ledgers.new_lines.values()}


def run_faults(ledgers, ahead, index):
    """What is wrong behind the run with this index; ahead has the labels and ties ahead of it."""
    found = []
    for old in ledgers.old_lines.values():
        found.extend([(name, index, old.number) for name in old_faults(ledgers, old)])
    for line in ledgers.new_lines.values():
        if line.number in ahead:
            label, tie = ahead[line.number]
            found.extend([(name, index, line.number) for name in typed_faults(ledgers, line, label, tie)])
    return found


def old_faults(ledgers, old):
    """The names of the faults of an old line."""
    if old.number not in ledgers.made_lines:
        return ["missing"] if old.standing else []
    if not old.standing:
        return ["stays"]
    made = ledgers.made_lines[old.number]
    names = []
    if made.start != old.closing():
        names.append("start")
    if "label" not in made.typed and made.label != old.label:
        names.append("label")
    if "tie" not in made.typed and made.tie != wished_tie(ledgers, old):
        names.append("tie")
    return names


def wished_tie(ledgers, old):
    """The tie that the made line of an old line should have."""
    if old.tie is None:
        return None
    other = ledgers.old_lines[old.tie]
    return ledgers.made_number(other.number) if other.standing else None


def typed_faults(ledgers, line, label, tie):
    """The names of the faults of a new line that had this label and this tie ahead of the run."""
    names = []
    if is_typed(line, "label") and line.label != label:
        names.append("typed label")
    if is_typed(line, "tie") and line.tie != tie and (tie is None or tie in ledgers.new_lines):
        names.append("typed tie")
    return names


def is_typed(line, field):
    """Whether a field is what people wrote: all fields of a line without a source are."""
    return line.source is None or field in line.typed
