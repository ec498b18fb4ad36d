"""Moves, the words that make them, and whether two are alike."""
