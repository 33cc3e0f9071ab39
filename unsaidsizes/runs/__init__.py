"""Said sizes and exact runs."""
