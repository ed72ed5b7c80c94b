"""Pickline: changes picked from a main line to elder lines."""
