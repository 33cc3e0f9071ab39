"""Polynomials and tables, and how they are reckoned with."""
