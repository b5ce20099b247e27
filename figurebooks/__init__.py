"""Figurebooks: endless rows of integers that are told by the figures of their places."""
