"""Dropsums: pots of drops that reckon in whatever order, and papers that they do."""
