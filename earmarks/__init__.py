"""Earmarks: cuts that only deepen, and whose beast it is."""
