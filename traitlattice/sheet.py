"""A sheet of traits, things and cells, and a table with names."""


def columns_of(kind, name, marks):
    """The names of a trait's columns, in the order of its steps."""
    if kind == "plain":
        return [name]
    return [f"{name}.{step}" for step in marks]


class Sheet:
    """Traits with their steps, and things with a cell for each trait.

    It is made with a list of traits, tuples (kind, name, list of steps) where kind
    is "plain" or "graded" and a plain trait has the one step 1, the list of the
    things' names, and for each thing the list of its cells. It copies these.
    """

    def __init__(self, traits, things, cells):
        self.trait_heads = [(kind, name, list(marks)) for kind, name, marks in traits]
        self.thing_names = list(things)
        self.thing_cells = [list(line) for line in cells]

    def traits(self):
        """The traits as the sheet was made with them."""
        return [(kind, name, list(marks)) for kind, name, marks in self.trait_heads]

    def steps(self):
        """For each trait the list of its steps."""
        return [marks for kind, name, marks in self.traits()]

    def cells(self):
        """For each thing the list of its cells, one for each trait."""
        return [list(line) for line in self.thing_cells]

    def columns(self):
        """The names of the columns, trait by trait."""
        names = []
        for kind, name, marks in self.trait_heads:
            names.extend(columns_of(kind, name, marks))
        return names

    def things(self):
        """The names of the things."""
        return list(self.thing_names)


class Table:
    """A table with the names of its things and of its columns."""

    def __init__(self, things, columns, rows):
        self.thing_names = list(things)
        self.column_names = list(columns)
        self.thing_rows = list(rows)

    def things(self):
        """The names of the things."""
        return list(self.thing_names)

    def columns(self):
        """The names of the columns."""
        return list(self.column_names)

    def rows(self):
        """The set of columns of each thing."""
        return list(self.thing_rows)
