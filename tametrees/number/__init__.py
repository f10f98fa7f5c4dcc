"""One number of a definite tree, on two roads."""
