"""From the text of a sheet to answers in names and texts."""

from traitlattice.bits import picked
from traitlattice.gaps import mending, spoiling
from traitlattice.ideas import ideas
from traitlattice.least import answer, least
from traitlattice.reader import read_rule, read_sheet
from traitlattice.sheet import Sheet
from traitlattice.writer import rule_text, table_of, written


def ideas_of(text):
    """The ideas of a sheet's table, each as the names of its things and of its columns."""
    table = table_of(read_sheet(text))
    things = table.things()
    columns = table.columns()
    found = ideas(table.rows(), len(columns))
    return [(picked(things, group), picked(columns, mask)) for group, mask in found]


def least_texts(sheet, table):
    """The texts of the least row's rules of a sheet and its table."""
    return [rule_text(sheet, rule) for rule in least(table.rows(), len(table.columns()))]


def rules_of(text):
    """The texts of the least row's rules of a sheet's table."""
    sheet = read_sheet(text)
    return least_texts(sheet, table_of(sheet))


def answer_of(text, rule):
    """("follows", the texts of a paper's rules) where the rule holds, else ("broken", a thing's name)."""
    sheet = read_sheet(text)
    table = table_of(sheet)
    found = answer(table.rows(), len(table.columns()), read_rule(sheet, rule))
    if found[0] == "broken":
        return ("broken", table.things()[found[1]])
    row = least_texts(sheet, table)
    return ("follows", [row[place] for place in found[1]])


def known_cells(worths):
    """The cells of a thing whose worths are known to be these."""
    return [(worth, worth) for worth in worths]


def filled_text(sheet, filling):
    """The text of the sheet with the filling in the place of its cells."""
    return written(Sheet(sheet.traits(), sheet.things(), [known_cells(worths) for worths in filling]))


def judged(text, rule):
    """("sure", None), ("never", None) or ("may", (mended, spoilt)) for a sheet that may have gaps."""
    sheet = read_sheet(text)
    asked = read_rule(sheet, rule)
    steps = sheet.steps()
    cells = sheet.cells()
    spoilt = spoiling(steps, cells, asked)
    if spoilt is None:
        return ("sure", None)
    mended = mending(steps, cells, asked)
    if mended is None:
        return ("never", None)
    return ("may", (filled_text(sheet, mended), filled_text(sheet, spoilt)))
