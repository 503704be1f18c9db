"""Centbook: whole cents for exact charges, line by line and day by day."""
