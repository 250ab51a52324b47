"""Rows of deeds that do what is asked."""
