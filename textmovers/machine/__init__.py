"""Machines, and machines that are known."""
