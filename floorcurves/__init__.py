"""Floorcurves: one count told by paths, by floors, and by ends."""
