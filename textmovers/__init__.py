"""Machines that move texts of every length."""
