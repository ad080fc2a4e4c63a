"""Plans of operators: their meaning, and other plans of the same meaning."""
