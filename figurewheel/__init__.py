"""Figurewheel: rows of signs without end, told by figures."""
