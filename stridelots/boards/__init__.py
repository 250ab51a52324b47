"""Boards, their cells, and how standings are written."""
