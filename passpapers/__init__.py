"""Passpapers: a chain of passes, each with a paper."""
