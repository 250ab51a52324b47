"""How many standings can come, and by how many deeds."""
