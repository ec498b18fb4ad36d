"""The core of a quiet machine, and moves told by trees whose leaves are in it."""
