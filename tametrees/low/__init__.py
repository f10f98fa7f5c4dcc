"""Rows of a low worth in a class, their pieces, boxes of rows, and the counts that these tell."""
