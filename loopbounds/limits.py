"""The limits of loops and of the numbers in them."""

VARIABLES = 6
LENGTH = 12
PERIOD = 6
ROUNDS = 1000
BASES = 12
PLAIN = 1000
SMALL = 9
