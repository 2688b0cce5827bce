"""Writes the text of a sheet and the text of a rule, and tells the table of a sheet without gaps."""

from traitlattice.bits import picked
from traitlattice.errors import Gap
from traitlattice.gaps import highs, lows, spread
from traitlattice.sheet import Table
from traitlattice.words import cell_text


def trait_line(trait):
    """The line of a trait (kind, name, steps)."""
    words = [trait[0], trait[1]]
    # A plain trait's one step goes without saying.
    if trait[0] == "graded":
        words.extend([str(step) for step in trait[2]])
    return " ".join(words)


def thing_line(traits, name, line):
    """The line of a thing with this name and these cells, one for each trait."""
    words = ["thing", name]
    words.extend([cell_text(trait[0], cell) for trait, cell in zip(traits, line)])
    return " ".join(words)


def written(sheet):
    """The text of a sheet."""
    traits = sheet.traits()
    lines = [trait_line(trait) for trait in traits]
    lines.extend([thing_line(traits, name, line) for name, line in zip(sheet.things(), sheet.cells())])
    return "\n".join(lines)


def rule_text(sheet, rule):
    """The text of a rule of the sheet's columns."""
    columns = sheet.columns()
    return " ".join(picked(columns, rule[0]) + ["->"] + picked(columns, rule[1]))


def table_of(sheet):
    """The table of a sheet without gaps."""
    steps = sheet.steps()
    rows = []
    for thing, line in enumerate(sheet.cells()):
        worths = lows(line)
        # Also a gap between the same two steps, which no column tells, is one.
        if worths != highs(line):
            raise Gap(thing)
        rows.append(spread(steps, worths))
    return Table(sheet.things(), sheet.columns(), rows)
