"""Cells that hang together by the deeds of a book."""
