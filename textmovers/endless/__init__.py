"""Texts without end to the left, and which of them are near one another."""
