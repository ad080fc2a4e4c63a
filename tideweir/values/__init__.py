"""Values, rows and keys."""
