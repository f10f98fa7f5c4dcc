"""Odd rows of trees, and the heights of classes."""
