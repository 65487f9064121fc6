"""What a script has of what makes it right, told step by step.

The marks of steps are five truths, in this order:

- made: a line is made for each standing line, so none is missing: there is a "make";
- started: lines made in an earlier run get the closing: there is a "start" that is not "new" (a line
  made in this run has it already);
- labelled: likewise for labels, there is a ("label", "free");
- tied: there is a ("tie", "free") behind a "make". Without it, a line made in an earlier run gets no tie to
  one made in this run. With it, the last such step gives each line its tie, and a tie to the line of an
  ended one goes when that line is dropped;
- dropped: the lines of ended lines go: there is a "drop", and no ("make", "all") behind the last one.

A script is right just if it has all of them and no step that spoils it: ("label", "all") and
("tie", "all") overwrite what was typed, and nothing brings it back. The marks of spoiled steps are None.
"""

NO_MARKS = (False, False, False, False, False)
ALL_MARKS = (True, True, True, True, True)

SPOILING = (("label", "all"), ("tie", "all"))


def marks_behind(marks, step):
    """The marks behind one more step."""
    if marks is None or step in SPOILING:
        return None
    made, started, labelled, tied, dropped = marks
    if step == ("make", "all"):
        return (True, started, labelled, tied, False)
    if step == ("make", "standing"):
        return (True, started, labelled, tied, dropped)
    if step in (("start", "all"), ("start", "free")):
        return (made, True, labelled, tied, dropped)
    if step == ("label", "free"):
        return (made, started, True, tied, dropped)
    if step == ("tie", "free"):
        return (made, started, labelled, tied or made, dropped)
    if step == ("drop",):
        return (made, started, labelled, tied, True)
    # The scope "new" is left, which has no line that could lack a mark.
    return marks


def marks_of(steps, ahead=NO_MARKS):
    """The marks behind these steps, where those of the steps ahead of them are known."""
    marks = ahead
    for step in steps:
        marks = marks_behind(marks, step)
    return marks
