"""Expressions over the columns of a row: their types, their values, and substitution."""
