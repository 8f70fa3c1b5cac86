"""Facecounts: counts of the faces of closed nets."""
