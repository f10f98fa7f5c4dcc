"""Trees whose places have integers, tame or not, and one number on many roads."""
