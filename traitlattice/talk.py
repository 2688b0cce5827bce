"""A talk that finds the rules of a world that another one knows."""

from traitlattice.bits import fits
from traitlattice.errors import Against, AtEnd, BadSet, NotBroken
from traitlattice.least import next_rule
from traitlattice.rules import breaks, first_broken


class Talk:
    """Asks for one rule after another, and keeps the rules said yes to and the known things."""

    def __init__(self, width, rows=None):
        self.breadth = width
        self.known = [] if rows is None else list(rows)
        self.agreed = []
        self.question = next_rule(self.known, width, self.agreed, 0)

    def asked(self):
        """The rule asked, or None at the end."""
        return self.question

    def yes(self):
        """The rule asked holds in the world."""
        if self.question is None:
            raise AtEnd()
        self.agreed.append(self.question)
        self.go_on()

    def no(self, row):
        """A thing of the world, told by its row, breaks the rule asked."""
        if self.question is None:
            raise AtEnd()
        if not fits(row, self.breadth):
            raise BadSet()
        if not breaks(row, self.question):
            raise NotBroken()
        if first_broken(self.agreed, row) is not None:
            raise Against()
        self.known.append(row)
        self.go_on()

    def go_on(self):
        """Settles what is asked behind an answer."""
        # A set below the one asked breaks a rule said yes to or is closed; it
        # breaks that rule ever after, and one more thing leaves it closed. So
        # those sets need not be tried again.
        self.question = next_rule(self.known, self.breadth, self.agreed, self.question[0])

    def rules(self):
        """The rules said yes to, in the order of the yeses."""
        return list(self.agreed)

    def things(self):
        """The rows of the known things, in the order in which they came."""
        return list(self.known)
