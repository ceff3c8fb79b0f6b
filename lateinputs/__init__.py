"""Inputs late and lost: ticks made all the same, and reckoned again until they are settled."""
