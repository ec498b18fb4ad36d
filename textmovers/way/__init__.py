"""Fewest steps between texts, however long they are."""
