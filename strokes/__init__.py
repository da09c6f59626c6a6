"""Strokes: a small language that paints rows black and columns white, with its machine."""
