"""Steps up to quiet rows, tame trees, and what their rows tell."""
