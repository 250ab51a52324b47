"""Signs of deeds: even and odd in each class."""
