"""A second writing of points [6] to [10], sentence by sentence and without regard to speed.

A ledger is a list of dicts, of which those of dropped lines stay with "gone" set; a line's number
is its place from 1. Tests compare the package with it.
"""


def line_of(ledger, number):
    """The line with this number, or None."""
    if number is None or not 1 <= number <= len(ledger) or ledger[number - 1]["gone"]:
        return None
    return ledger[number - 1]


def present(ledger):
    return [line for line in ledger if not line["gone"]]


def made_of(new, old_number):
    for line in present(new):
        if line["source"] == old_number:
            return line
    return None


def closing(line):
    return line["start"] + line["moves"]


def put(ledger, label, start, source=None):
    ledger.append({"number": len(ledger) + 1, "label": label, "start": start, "moves": 0, "tie": None,
                   "source": source, "standing": True, "gone": False, "typed": []})


def step_make(old, new, which):
    for line in old:
        if made_of(new, line["number"]) is None:
            if which == "all" or line["standing"]:
                put(new, line["label"], closing(line), line["number"])


def step_drop(old, new):
    for line in new:
        if line["source"] is not None and not old[line["source"] - 1]["standing"]:
            line["gone"] = True
    for line in new:
        if line["tie"] is not None and new[line["tie"] - 1]["gone"]:
            line["tie"] = None


def step_renew(old, new, field, scope, made_now):
    for line in present(new):
        if line["source"] is None:
            continue
        if scope == "new" and line["number"] not in made_now:
            continue
        if scope == "free" and field in line["typed"]:
            continue
        mine = old[line["source"] - 1]
        if field == "start":
            line["start"] = closing(mine)
        elif field == "label":
            line["label"] = mine["label"]
        else:
            target = made_of(new, mine["tie"]) if mine["tie"] is not None else None
            line["tie"] = target["number"] if target is not None else None


def run(steps, old, new):
    first = len(new) + 1
    for step in steps:
        if step[0] == "make":
            step_make(old, new, step[1])
        elif step[0] == "drop":
            step_drop(old, new)
        else:
            step_renew(old, new, step[0], step[1], range(first, len(new) + 1))


def missing_line(old, new, deed):
    """Whether a deed names a line that is not there."""
    word = deed[0]
    ledger = new if word.startswith("write") else old
    if word in ("add", "own", "run"):
        return False
    if line_of(ledger, deed[1]) is None:
        return True
    return word in ("tie", "write tie") and deed[2] is not None and line_of(ledger, deed[2]) is None


def do(steps, old, new, deed):
    word = deed[0]
    if word == "run":
        run(steps, old, new)
    elif word == "add":
        put(old, deed[1], deed[2])
    elif word == "own":
        put(new, deed[1], 0)
    elif word == "end":
        old[deed[1] - 1]["standing"] = False
    elif word in ("label", "moves", "tie"):
        old[deed[1] - 1][word] = deed[2]
    else:
        field = word.split()[1]
        line = new[deed[1] - 1]
        line[field] = deed[2]
        if line["source"] is not None and field in ("label", "tie"):
            line["typed"].append(field)


def told_of_old(old, new, index):
    found = []
    for line in old:
        number = line["number"]
        made = made_of(new, number)
        if line["standing"] and made is None:
            found.append(("missing", index, number))
        if not line["standing"] and made is not None:
            found.append(("stays", index, number))
        if line["standing"] and made is not None:
            if made["start"] != closing(line):
                found.append(("start", index, number))
            if "label" not in made["typed"] and made["label"] != line["label"]:
                found.append(("label", index, number))
            wished = None
            if line["tie"] is not None and old[line["tie"] - 1]["standing"]:
                target = made_of(new, line["tie"])
                wished = target["number"] if target is not None else None
            if "tie" not in made["typed"] and made["tie"] != wished:
                found.append(("tie", index, number))
    return found


def told_of_new(ahead, new, index):
    found = []
    for was in present(ahead):
        line = line_of(new, was["number"])
        if line is None:
            continue
        own = line["source"] is None
        if (own or "label" in line["typed"]) and was["label"] != line["label"]:
            found.append(("typed label", index, line["number"]))
        if (own or "tie" in line["typed"]) and was["tie"] != line["tie"]:
            if was["tie"] is None or line_of(new, was["tie"]) is not None:
                found.append(("typed tie", index, line["number"]))
    return found


def history(steps, deeds):
    """(old, new, faults) of the deeds, or the index of the first that names a line that is not there."""
    old, new, found = [], [], []
    for index, deed in enumerate(deeds):
        if missing_line(old, new, deed):
            return index
        ahead = [dict(line) for line in new]
        do(steps, old, new, deed)
        if deed == ("run",):
            found += told_of_old(old, new, index) + told_of_new(ahead, new, index)
    old_rows = [tuple(line[key] for key in ("number", "label", "start", "moves", "tie", "standing")) for line in old]
    new_rows = [tuple(line[key] for key in ("number", "label", "start", "moves", "tie", "source"))
                for line in present(new)]
    return old_rows, new_rows, found
