"""Texts of sheets that the tests hold the program against, and what the document says of them."""

import itertools
import re

from tests.tables import is_broken_by, mixed_rows
from traitlattice.errors import TraitError

TOP = 999999999999999999

NAME = "[a-z]{1,8}"
NUMBER = "(?:0|[1-9][0-9]{0,17})"
CELLS = {"plain": "y|n|[?]", "graded": f"{NUMBER}|{NUMBER}:{NUMBER}|[?]"}
PLAIN_WORTHS = {"y": (1, 1), "n": (0, 0), "?": (0, 1)}


def graded_cell_by_the_words(word):
    """The cell, or None where LOW is not less than HIGH or ? should stand for it."""
    if word == "?":
        return (0, TOP)
    if ":" not in word:
        return (int(word), int(word))
    low, high = [int(part) for part in word.split(":")]
    return (low, high) if low < high and (low, high) != (0, TOP) else None


def trait_by_the_words(line):
    """The trait (kind, name, steps) of a line, or None where it is no trait line."""
    plain = re.fullmatch(f"plain ({NAME})", line)
    if plain:
        return ("plain", plain[1], [1])
    graded = re.fullmatch(f"graded ({NAME})((?: {NUMBER}){{1,4}})", line)
    if not graded:
        return None
    steps = [int(word) for word in graded[2].split()]
    rises = all(low < high for low, high in zip([0] + steps, steps))
    return ("graded", graded[1], steps) if rises else None


def thing_by_the_words(line, traits):
    """The thing (name, cells) of a line, or None where it is no thing line."""
    wanted = f"thing ({NAME})" + "".join(f" ({CELLS[kind]})" for kind, name, steps in traits)
    found = re.fullmatch(wanted, line)
    if not found:
        return None
    cells = []
    for (kind, name, steps), word in zip(traits, found.groups()[1:], strict=True):
        cells.append(PLAIN_WORTHS[word] if kind == "plain" else graded_cell_by_the_words(word))
    return None if None in cells else (found[1], cells)


def read_by_the_words(text):
    """("sheet", traits, things), or a refusal's name and its line."""
    traits, things = [], []
    for number, line in enumerate(text.split("\n"), start=1):
        trait, thing = trait_by_the_words(line), thing_by_the_words(line, traits)
        if thing:
            above, most = things, 60
            many = len(things) + 1
        elif trait and not things:
            above, most = traits, 10
            many = sum(len(other[2]) for other in traits + [trait])
        else:
            return ("BadText", number)
        name = thing[0] if thing else trait[1]
        if name in [other[0] if thing else other[1] for other in above]:
            return ("Twice", number)
        if many > most:
            return ("TooLarge", number)
        above.append(thing or trait)
    return ("sheet", traits, things)


def column_names(traits):
    names = []
    for kind, name, steps in traits:
        names += [name] if kind == "plain" else [name + "." + str(step) for step in steps]
    return names


def columns_by_the_words(steps, worths):
    mask, column = 0, 0
    for marks, worth in zip(steps, worths, strict=True):
        for step in marks:
            if worth >= step:
                mask |= 1 << column
            column += 1
    return mask


def table_by_the_words(text):
    """(things, columns, rows) of a text without gaps."""
    kind, traits, things = read_by_the_words(text)
    steps = [trait[2] for trait in traits]
    rows = [columns_by_the_words(steps, [low for low, high in cells]) for name, cells in things]
    return [name for name, cells in things], column_names(traits), rows


def rule_by_the_words(columns, rule):
    """The text of a rule: the names of either side in the order of the columns."""
    ahead, behind = [[name for place, name in enumerate(columns) if side >> place & 1] for side in rule]
    return " ".join(ahead + ["->"] + behind)


def worths_that_matter(marks, cell):
    """The low and each step up to the high: any other worth has the columns of one of these."""
    return [cell[0]] + [step for step in marks if cell[0] < step <= cell[1]]


def rows_of_a_thing(steps, line):
    choices = [worths_that_matter(marks, cell) for marks, cell in zip(steps, line, strict=True)]
    return [columns_by_the_words(steps, worths) for worths in itertools.product(*choices)]


def tables_of(steps, cells):
    """The tables of all fillings that matter."""
    return list(itertools.product(*[rows_of_a_thing(steps, line) for line in cells]))


def holds_in(rows, rule):
    return not any(is_broken_by(row, rule) for row in rows)


def all_told(sheet):
    return sheet.steps(), sheet.cells(), sheet.columns(), sheet.things()


def told_by(table):
    return table.things(), table.columns(), table.rows()


def refusal(call, *handed):
    """The refusal of a call as a tuple of its name and what it bears, or None where there is none."""
    try:
        call(*handed)
    except TraitError as error:
        return (type(error).__name__,) + tuple(vars(error).values())
    return None


def thing_names(many, first="t"):
    return [first + "abcdefghij"[place // 10] + "abcdefghij"[place % 10] for place in range(many)]


class Draws:
    """Numbers that follow no plain pattern, the same in each run."""

    def __init__(self, seed):
        self.left = mixed_rows(2000, 30, seed)

    def below(self, bound):
        return self.left.pop() % bound

    def one_of(self, choices):
        return choices[self.below(len(choices))]


def mixed_traits(draws, most_traits, most_columns):
    traits, room = [], most_columns
    for name in ["a", "size", "plain", "thing", "zzzzzzzz", "graded"][: draws.below(most_traits + 1)]:
        kind = draws.one_of(["plain", "graded", "graded"])
        many = 1 if kind == "plain" else 1 + draws.below(4)
        if many <= room:
            ladder = draws.one_of([[1, 2, 3, 4], [7, 10, 40, TOP], [5, 6, 100, 101]])
            begin = draws.below(5 - many)
            traits.append((kind, name, [1] if kind == "plain" else ladder[begin : begin + many]))
            room -= many
    return traits


def mixed_word(draws, kind, steps, gaps):
    """A cell's word; the worths are at, right below and right above a step, or at the bounds."""
    if kind == "plain":
        return draws.one_of("yn?" if gaps else "yn")
    ends = [0, TOP] + [min(step + by, TOP) for step in steps for by in (-1, 0, 1)]
    low, high = sorted([draws.one_of(ends), draws.one_of(ends)])
    if not gaps or low == high or draws.below(3) == 0:
        return str(low)
    return "?" if (low, high) == (0, TOP) else f"{low}:{high}"


def mixed_text(seed, most_traits=4, most_columns=10, most_things=6, gaps=True):
    """A text that is let in."""
    draws = Draws(seed)
    traits = mixed_traits(draws, most_traits, most_columns)
    lines = []
    for kind, name, steps in traits:
        lines.append(" ".join([kind, name] + [str(step) for step in steps if kind == "graded"]))
    many = draws.below(most_things + 1) if lines else 1 + draws.below(most_things)
    for name in ["a", "pea", "size", "apple", "graded", "abcdefgh"][:many]:
        words = [mixed_word(draws, kind, steps, gaps) for kind, trait, steps in traits]
        lines.append(" ".join(["thing", name] + words))
    return "\n".join(lines)
