"""Models, parts, books, and their texts."""
