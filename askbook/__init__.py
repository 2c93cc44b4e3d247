"""Askbook: books of facts, and what holds of every book."""
