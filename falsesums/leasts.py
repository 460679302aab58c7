"""The least degree of a system at which a showing is there."""

from falsesums.fillings import fillings
from falsesums.telling import told


def least(system):
    """A tuple (`filled`, the first filling), or (`least`, degree, a showing of it, worths of one less or None)."""
    return least_by(system, fillings(system), told)


def least_by(system, found, tell):
    """As least tells, of all fillings and of what tells a paper of a system and a degree."""
    if found:
        return ("filled", found[0])
    degree, worths = 0, None
    word, paper = tell(system, degree)
    # It ends: at the top degree, at the latest, only fillings give worths.
    while word == "worths":
        degree, worths = degree + 1, paper
        word, paper = tell(system, degree)
    return ("least", degree, paper, worths)
