"""Fewkept: houses that forget for good what can't matter, and tell what they may not be sure of."""
