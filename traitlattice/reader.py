"""Reads the text of a sheet and the text of a rule."""

from traitlattice.bits import mask_of
from traitlattice.bounds import MOST_COLUMNS, MOST_STEPS, MOST_THINGS
from traitlattice.errors import BadText, TooLarge, Twice, Unknown
from traitlattice.sheet import Sheet
from traitlattice.words import cell_of, is_name, number_of


def rising_steps(words):
    """The steps that the words behind a graded trait's name tell, or None where they are at fault."""
    if not 1 <= len(words) <= MOST_STEPS:
        return None
    marks = []
    last = 0
    for word in words:
        step = number_of(word)
        if step is None or step <= last:
            return None
        marks.append(step)
        last = step
    return marks


def steps_told(words):
    """The steps that the words of a trait line tell, or None where they are of neither form."""
    if len(words) < 2 or not is_name(words[1]):
        return None
    if words[0] == "graded":
        return rising_steps(words[2:])
    return [1] if words[0] == "plain" and len(words) == 2 else None


def cells_told(words, traits):
    """The cells that the words of a thing line tell, or None where they are not of that form."""
    if len(words) != 2 + len(traits) or not is_name(words[1]):
        return None
    line = [cell_of(trait[0], word) for trait, word in zip(traits, words[2:])]
    return None if None in line else line


def read_trait(number, words, traits, things):
    """The trait (kind, name, steps) of the line with this number, below these traits and things."""
    marks = steps_told(words)
    if marks is None or len(things) > 0:
        raise BadText(number)
    if words[1] in [trait[1] for trait in traits]:
        raise Twice(number)
    if sum([len(trait[2]) for trait in traits]) + len(marks) > MOST_COLUMNS:
        raise TooLarge(number)
    return (words[0], words[1], marks)


def read_thing(number, words, traits, things):
    """The thing (name, cells) of the line with this number, below these traits and things."""
    line = cells_told(words, traits)
    if line is None:
        raise BadText(number)
    if words[1] in [thing[0] for thing in things]:
        raise Twice(number)
    if len(things) >= MOST_THINGS:
        raise TooLarge(number)
    return (words[1], line)


def read_sheet(text):
    """The sheet that a text tells."""
    traits = []
    things = []
    for number, line in enumerate(text.split("\n"), start=1):
        words = line.split(" ")
        if words[0] == "thing":
            things.append(read_thing(number, words, traits, things))
        else:
            traits.append(read_trait(number, words, traits, things))
    return Sheet(traits, [thing[0] for thing in things], [thing[1] for thing in things])


def read_rule(sheet, text):
    """The rule, of the sheet's columns, that a text tells."""
    words = text.split(" ")
    if words.count("->") != 1 or "" in words:
        raise BadText(0)
    columns = sheet.columns()
    for word in words:
        if word != "->" and word not in columns:
            raise Unknown(word)
    arrow = words.index("->")
    ahead = mask_of([columns.index(word) for word in words[:arrow]])
    behind = mask_of([columns.index(word) for word in words[arrow + 1 :]])
    return (ahead, behind)
