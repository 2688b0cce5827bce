"""The words of a sheet's text: names, numbers and cells."""

LETTERS = "abcdefghijklmnopqrstuvwxyz"
FIGURES = "0123456789"
MOST_LETTERS = 8
MOST_FIGURES = 18
GREATEST_WORTH = 999999999999999999
PLAIN_CELLS = {"y": (1, 1), "n": (0, 0), "?": (0, 1)}


def made_of(word, signs, most):
    """Whether a word has at least one and at most so many signs, all of them among those told."""
    return 1 <= len(word) <= most and all([sign in signs for sign in word])


def is_name(word):
    """Whether a word is a name."""
    return made_of(word, LETTERS, MOST_LETTERS)


def number_of(word):
    """The number that a word tells, or None where it is not of that form."""
    if not made_of(word, FIGURES, MOST_FIGURES):
        return None
    if word[0] == "0" and word != "0":
        return None
    return int(word)


def graded_cell(word):
    """The cell of a graded trait that a word tells, or None where it is not of that form."""
    if word == "?":
        return (0, GREATEST_WORTH)
    ends = [number_of(part) for part in word.split(":")]
    if None in ends or len(ends) > 2:
        return None
    if len(ends) == 1:
        return (ends[0], ends[0])
    # Each cell has one form alone, so that what is written is what was read: a
    # pair of the same number, or of the least and the greatest, is none.
    cell = (ends[0], ends[1])
    return cell if ends[0] < ends[1] and cell != (0, GREATEST_WORTH) else None


def cell_of(kind, word):
    """The cell of a trait of this kind that a word tells, or None where it is not of that form."""
    return PLAIN_CELLS.get(word) if kind == "plain" else graded_cell(word)


def graded_cell_text(cell):
    """The word for a cell of a graded trait."""
    low = cell[0]
    high = cell[1]
    if cell == (0, GREATEST_WORTH):
        return "?"
    return str(low) if low == high else f"{low}:{high}"


def cell_text(kind, cell):
    """The word for a cell of a trait of this kind."""
    if kind == "plain":
        return [word for word in PLAIN_CELLS if PLAIN_CELLS[word] == cell][0]
    return graded_cell_text(cell)
