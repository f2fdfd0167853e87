"""Trickproof: a table of tricks, counted with open cards."""
