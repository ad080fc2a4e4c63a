"""Operators: their checks, and the output that they define."""
