"""Tasks: operators that get parcels through channels."""
