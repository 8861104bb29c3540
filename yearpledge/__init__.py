"""Yearly payments that hang on lives, weighed in exact parts."""
