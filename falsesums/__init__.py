"""Falsesums: wishes that no filling grants, and papers of either kind that say so."""
