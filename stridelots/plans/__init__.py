"""Turnings of cells, and plans of deeds as texts."""
