"""Allscales: what holds for all changes of units."""
