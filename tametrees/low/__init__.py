"""Rows of a low worth in a class, and their pieces."""
