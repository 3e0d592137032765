"""Gifts that hang on lives, judged for every family record that can still come."""
