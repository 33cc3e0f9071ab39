"""What is tied to what, and what has to be given."""
