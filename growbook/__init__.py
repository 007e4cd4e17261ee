"""Growbook: a book that only grows, a table beside it, and papers that show both."""
