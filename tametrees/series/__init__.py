"""The series of definite trees."""
