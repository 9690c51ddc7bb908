"""Sayhall: sayings by yes and no, and what must be so."""
