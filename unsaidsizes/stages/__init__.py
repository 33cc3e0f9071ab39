"""Stages at which beginnings can be chosen for nearly all sizes."""
