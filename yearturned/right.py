"""Whether a script is right for all histories, and a shortest history for which it is not."""

from yearturned.errors import NotRight
from yearturned.marks import ALL_MARKS, marks_of
from yearturned.plays import faults

# For each way in which a script can fail, a shortest history that shows it; the shorter ones stand first.
# They show, in this order: no "make"; ("make", "all") behind each "drop"; no "tie" behind the first "make";
# no "drop"; no "start", no "label" and no "tie" but "new" ones; ("label", "all"); ("tie", "all");
# no ("tie", "free") behind a "make".
TELLING = (
    (("add", 0, 0), ("run",)),
    (("add", 0, 0), ("end", 1), ("run",)),
    (("add", 0, 0), ("tie", 1, 1), ("run",)),
    (("add", 0, 0), ("run",), ("end", 1), ("run",)),
    (("add", 0, 0), ("run",), ("moves", 1, 1), ("run",)),
    (("add", 0, 0), ("run",), ("label", 1, 1), ("run",)),
    (("add", 0, 0), ("run",), ("tie", 1, 1), ("run",)),
    (("add", 0, 0), ("run",), ("write label", 1, 1), ("run",)),
    (("add", 0, 0), ("run",), ("write tie", 1, 1), ("run",)),
    (("add", 0, 0), ("run",), ("add", 0, 0), ("tie", 1, 2), ("run",)),
)


def first_fault(script):
    """None if the script is right; otherwise a list of deeds with faults, as short as any."""
    for deeds in TELLING:
        if faults(script, list(deeds)):
            return list(deeds)
    return None


def is_right(script):
    """Whether there are no faults, whatever deeds are played."""
    return marks_of(script.steps()) == ALL_MARKS


def needless(script):
    """The indexes, ascending, of the steps without which, each alone, the script is right."""
    if not is_right(script):
        raise NotRight("the script is not right")
    return [index for index in range(len(script)) if is_right(script.without(index))]
