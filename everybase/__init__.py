"""Everybase: programs that reckon with figures, in all bases at once."""
