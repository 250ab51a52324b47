"""Stridelots: neighbouring lots that change places."""
