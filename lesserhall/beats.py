"""Beats: all have their turns at once."""

from lesserhall.turns import turned


def beaten(hall, standing):
    """The standing behind one beat."""
    return turned(hall, standing, list(range(len(hall))))


def history(hall, standing, many):
    """The list of the standings behind 0, 1, .. so many beats."""
    standings = [standing]
    while len(standings) <= many:
        standings.append(beaten(hall, standings[-1]))
    return standings


def rest_by_beats(hall, standing):
    """The pair of the rest where beats lead, and behind how many it's there."""
    beats = 0
    here = standing
    behind = beaten(hall, here)
    while behind != here:
        beats += 1
        here = behind
        behind = beaten(hall, here)
    return here, beats
