"""Plans that are laid out over tasks."""
