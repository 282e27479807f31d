"""Sumcraft: rows of fractions by rules, and sums that telescope."""
