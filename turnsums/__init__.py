"""Turnsums: sums by turnings, planned from pieces."""
