"""Free beginnings, and how deep a source comes into a quantity."""
