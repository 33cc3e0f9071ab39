"""Assignments, ranks and needless laws."""
