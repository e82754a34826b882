"""Contracts through inheritance, and who is to blame."""
