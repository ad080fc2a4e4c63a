"""Handles: operators that take their inputs in pieces, and their states."""
