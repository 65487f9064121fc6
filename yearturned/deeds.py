"""Deeds: what is one, and what people's deeds do to the ledgers."""

from yearturned.errors import NoDeed
from yearturned.integers import is_integer

MOST_LABEL = 10 ** 30 - 1
MOST_AMOUNT = 10 ** 12
MOST_NUMBER = 10 ** 9

# What stands behind the word of each deed; "other" is a number or None.
FORMS = {
    "add": ("label", "amount"),
    "label": ("number", "label"),
    "moves": ("number", "amount"),
    "tie": ("number", "other"),
    "end": ("number",),
    "own": ("label",),
    "write label": ("number", "label"),
    "write moves": ("number", "amount"),
    "write tie": ("number", "other"),
    "run": (),
}

WRITE = "write "


def check_deeds(deeds, first=0):
    """NoDeed unless this is a list of deeds, whatever lines there are; first is the index of its first one."""
    if not isinstance(deeds, list):
        raise NoDeed(first)
    for index, deed in enumerate(deeds, start=first):
        if not is_deed(deed):
            raise NoDeed(index)


def is_deed(value):
    """Whether a value is a deed, whatever lines there are."""
    if not isinstance(value, tuple) or len(value) == 0:
        return False
    word = value[0]
    if not isinstance(word, str) or word not in FORMS:
        return False
    form = FORMS[word]
    fields = value[1:]
    return len(fields) == len(form) and all([is_field(kind, field) for kind, field in zip(form, fields)])


def is_field(kind, value):
    """Whether a value is of this kind: a label, an amount, a number, or a number or None."""
    if kind == "label":
        return is_integer(value, 0, MOST_LABEL)
    if kind == "amount":
        return is_integer(value, -MOST_AMOUNT, MOST_AMOUNT)
    if kind == "other" and value is None:
        return True
    return is_integer(value, 1, MOST_NUMBER)


def named_numbers(deed):
    """The numbers of lines that a deed names."""
    fields = deed[1:]
    pairs = [(kind, value) for kind, value in zip(FORMS[deed[0]], fields) if kind in ("number", "other")]
    return [number for kind, number in pairs if number is not None]


def has_lines(ledgers, deed):
    """Whether all lines that a deed names are in its ledger."""
    lines = ledgers.new_lines if deed[0].startswith(WRITE) else ledgers.old_lines
    return all([number in lines for number in named_numbers(deed)])


def do_deed(ledgers, deed):
    """Carry out a deed other than a run; the lines that it names are there."""
    word = deed[0]
    if word == "add":
        ledgers.add_old(deed[1], deed[2])
    elif word == "own":
        ledgers.add_new(deed[1], 0, None)
    elif word == "end":
        line = ledgers.old_lines[deed[1]]
        line.standing = False
    elif word.startswith(WRITE):
        write_new(ledgers.new_lines[deed[1]], word.removeprefix(WRITE), deed[2])
    else:
        set_field(ledgers.old_lines[deed[1]], word, deed[2])


def write_new(line, field, value):
    """Write a field of a new line; a label and a tie are typed from then on."""
    set_field(line, field, value)
    if field != "moves":
        line.typed[field] = True


def set_field(line, field, value):
    """Give a line of either ledger this label, these moves or this tie."""
    if field == "label":
        line.label = value
    elif field == "moves":
        line.moves = value
    else:
        line.tie = value
