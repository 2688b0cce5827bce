"""How large a table may be where a larger one is refused."""

MOST_COLUMNS = 10
MOST_THINGS = 60
