"""How much of each there may be."""

RULES = 24
SOMES = 4
ROWS = 40
THINGS = 12
ATOMS = 5
UNKNOWNS = 4
SHORTS = 6
LOT = 40
DEPTH = 3
GROWN = 400
ASKED = 8
DEEDS = 100
LINES = 400

NONE = ()
