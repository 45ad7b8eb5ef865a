"""Sitout: servers that callers leave out."""
