"""What explains rows, and whether flows are right."""
