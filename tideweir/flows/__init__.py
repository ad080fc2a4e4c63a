"""Flows of weighted rows, their tables, and the logs that they come from."""
