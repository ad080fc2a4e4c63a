"""Graphs at work on logs."""
