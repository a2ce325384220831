"""Givenout: what those surely know to whom a house gives parts of its book."""
