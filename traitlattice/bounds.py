"""How many steps, columns and things there may be where more are refused."""

MOST_STEPS = 4
MOST_COLUMNS = 10
MOST_THINGS = 60
