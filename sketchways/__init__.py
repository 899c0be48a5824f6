"""Directions for towns of which only a sketch is known."""
