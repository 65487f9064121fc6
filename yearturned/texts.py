"""Texts of scripts and of deeds, written and read."""

from yearturned.deeds import check_deeds, is_deed
from yearturned.errors import NoText
from yearturned.scripts import STEPS, Script

NO_STEPS = "nothing"
NO_OTHER = "none"

# No field of a deed has more digits. Python refuses to read very long numbers.
MOST_DIGITS = 30


def script_text(script):
    """The text of a script."""
    if len(script) == 0:
        return NO_STEPS
    return ", ".join([step_text(step) for step in script.steps()])


def step_text(step):
    """The text of a step."""
    return " ".join(step)


def read_script(text):
    """The script that a text writes."""
    if not isinstance(text, str):
        raise NoText(0)
    if text == NO_STEPS:
        return Script(())
    return Script(tuple(read_parts(text.split(", "), read_step)))


def read_step(words):
    """The step that a text writes, or None."""
    for step in STEPS:
        if step_text(step) == words:
            return step
    return None


def deeds_text(deeds):
    """The text of a list of deeds."""
    check_deeds(deeds)
    return "\n".join([deed_text(deed) for deed in deeds])


def deed_text(deed):
    """The text of a deed."""
    return " ".join([NO_OTHER if field is None else str(field) for field in deed])


def read_deeds(text):
    """The list of deeds that a text writes."""
    if not isinstance(text, str):
        raise NoText(0)
    if text == "":
        return []
    return read_parts(text.split("\n"), read_deed)


def read_parts(parts, read_part):
    """What each part writes; read_part returns None for a part that writes nothing."""
    told = []
    for index, part in enumerate(parts):
        value = read_part(part)
        if value is None:
            raise NoText(index)
        told.append(value)
    return told


def read_deed(line):
    """The deed that a line of a text writes, or None."""
    words = line.split(" ")
    # The words of the deeds in the new ledger have a space in them.
    count = 2 if words[0] == "write" else 1
    fields = [read_field(word) for word in words[count:]]
    deed = (" ".join(words[:count]),) + tuple(fields)
    return deed if is_deed(deed) else None


def read_field(word):
    """The value of a field; the word itself, which no field is, if it writes none."""
    if word == NO_OTHER:
        return None
    return int(word) if writes_integer(word) else word


def writes_integer(word):
    """Whether a word is the text of an integer that a field may be."""
    digits = word.removeprefix("-")
    if not (digits.isascii() and digits.isdigit()) or len(digits) > MOST_DIGITS:
        return False
    return word == "0" or not digits.startswith("0")
