"""Webs added, multiplied, divided and raised like numbers."""
