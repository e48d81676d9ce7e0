"""The constants that some refusals name."""

MOST_RESTS = 2000
MOST_STANDINGS = 3000
