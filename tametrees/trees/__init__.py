"""Trees, and what their tables tell."""
