"""What trees are made of: fractions and tables of integers."""
