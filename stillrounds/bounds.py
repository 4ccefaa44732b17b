"""The numbers that bound what is taken and what is made."""

MAX_MACHINES = 6
MAX_DEEDS = 400
MAX_COME = 300
MAX_LETTERS = 3
MAX_LISTED = 12
MAX_EDITS = 60
