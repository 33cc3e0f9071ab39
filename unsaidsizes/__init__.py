"""Unsaidsizes: models of joined parts whose sizes nobody has said."""
