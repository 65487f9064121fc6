"""The old and the new ledger, and their lines."""


class OldLine:
    """A line of the old ledger."""

    def __init__(self, number, label, start):
        self.number = number
        self.label = label
        self.start = start
        self.moves = 0
        self.tie = None
        self.standing = True

    def closing(self):
        """The start and the moves together."""
        return self.start + self.moves

    def row(self):
        """The line as callers see it."""
        return (self.number, self.label, self.start, self.moves, self.tie, self.standing)

    def copied(self):
        """The same line once more."""
        line = OldLine(self.number, self.label, self.start)
        line.moves = self.moves
        line.tie = self.tie
        line.standing = self.standing
        return line


class NewLine:
    """A line of the new ledger; the keys of typed are the fields that people wrote."""

    def __init__(self, number, label, start, source):
        self.number = number
        self.label = label
        self.start = start
        self.moves = 0
        self.tie = None
        self.source = source
        self.typed = {}

    def row(self):
        """The line as callers see it."""
        return (self.number, self.label, self.start, self.moves, self.tie, self.source)

    def copied(self):
        """The same line once more."""
        line = NewLine(self.number, self.label, self.start, self.source)
        line.moves = self.moves
        line.tie = self.tie
        line.typed = dict(self.typed)
        return line


class Ledgers:
    """Both ledgers at one moment of a history.

    old_lines and new_lines hold the lines by their numbers, ascending; made_lines holds
    the made lines by the numbers of their sources.
    """

    def __init__(self):
        self.old_lines = {}
        self.new_lines = {}
        self.made_lines = {}
        self.last_new = 0

    def add_old(self, label, start):
        """Add a line to the old ledger."""
        number = len(self.old_lines) + 1
        self.old_lines[number] = OldLine(number, label, start)

    def add_new(self, label, start, source):
        """Add a line to the new ledger and return it."""
        # Lines are dropped from this ledger, so their count does not give the next number.
        self.last_new += 1
        line = NewLine(self.last_new, label, start, source)
        self.new_lines[line.number] = line
        return line

    def make_line(self, old):
        """Make the new line of an old one."""
        self.made_lines[old.number] = self.add_new(old.label, old.closing(), old.number)

    def drop_line(self, line):
        """Remove a made line, and the ties that lead to it."""
        del self.new_lines[line.number]
        del self.made_lines[line.source]
        for other in self.new_lines.values():
            if other.tie == line.number:
                other.tie = None

    def made_number(self, number):
        """The number of the made line of an old line; None without one, and for None."""
        if number not in self.made_lines:
            return None
        return self.made_lines[number].number

    def old_rows(self):
        """The lines of the old ledger as callers see them."""
        return [line.row() for line in self.old_lines.values()]

    def new_rows(self):
        """The lines of the new ledger as callers see them."""
        return [line.row() for line in self.new_lines.values()]

    def copied(self):
        """The same ledgers once more, with lines of their own."""
        ledgers = Ledgers()
        ledgers.old_lines = {number: line.copied() for number, line in self.old_lines.items()}
        ledgers.new_lines = {number: line.copied() for number, line in self.new_lines.items()}
        ledgers.made_lines = {source: ledgers.new_lines[line.number] for source, line in self.made_lines.items()}
        ledgers.last_new = self.last_new
        return ledgers
