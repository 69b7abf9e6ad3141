"""Wholecloth: transactions over replicated groups of keys, on machines that fail."""
