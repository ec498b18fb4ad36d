"""Strings of values, and a shell that answers lines."""
