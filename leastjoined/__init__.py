"""Leastjoined: code words made by joining the two least counts."""
