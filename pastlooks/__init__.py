"""Pastlooks: questions about the rows around a moment, answered for every world."""
