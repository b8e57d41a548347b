"""Orderpairs: which pairs of concurrent changes must be put in order."""
