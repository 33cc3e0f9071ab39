"""Grids of square models, and their marks."""
