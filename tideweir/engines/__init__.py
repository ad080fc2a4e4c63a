"""Jobs that can fail and go on."""
