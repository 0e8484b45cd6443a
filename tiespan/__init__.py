"""Tiespan: inequalities between two unknowns, decided through the shadows of pairs."""
