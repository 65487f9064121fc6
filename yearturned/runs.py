"""Runs: the steps of a script carried out in order."""


def run_script(ledgers, script):
    """Carry out the steps of a script."""
    # Only runs make lines while a run goes on, so a higher number tells a line of this run.
    last = ledgers.last_new
    for step in script.steps():
        if step[0] == "make":
            make_lines(ledgers, step[1])
        elif step[0] == "drop":
            drop_lines(ledgers)
        else:
            renew_lines(ledgers, step[0], step[1], last)


def make_lines(ledgers, which):
    """Make a line for each old line without one: for "all" of them, or the "standing" ones."""
    for old in ledgers.old_lines.values():
        if old.number not in ledgers.made_lines and (which == "all" or old.standing):
            ledgers.make_line(old)


def drop_lines(ledgers):
    """Remove each made line whose old line has ended."""
    for line in list(ledgers.made_lines.values()):
        old = ledgers.old_lines[line.source]
        if not old.standing:
            ledgers.drop_line(line)


def renew_lines(ledgers, field, scope, last):
    """Take a field over from the old lines, for the made lines in the scope."""
    for line in ledgers.made_lines.values():
        if in_scope(line, field, scope, last):
            renew_line(ledgers, line, field)


def in_scope(line, field, scope, last):
    """Whether a made line is in the scope; those behind the number last are of this run."""
    if scope == "new":
        return line.number > last
    return scope == "all" or field not in line.typed


def renew_line(ledgers, line, field):
    """Take a field of a made line over from its old line."""
    old = ledgers.old_lines[line.source]
    if field == "start":
        line.start = old.closing()
    elif field == "label":
        line.label = old.label
    else:
        line.tie = ledgers.made_number(old.tie)
