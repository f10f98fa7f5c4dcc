"""Odd rows of trees, the heights of classes, and lots of places."""
