"""Holefloors: domino floors with one free cell."""
