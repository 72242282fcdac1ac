"""Pitlots: what may be dug with all that it needs, and what it is worth."""
