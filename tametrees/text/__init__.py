"""Texts of trees, rows, fractions and classes."""
