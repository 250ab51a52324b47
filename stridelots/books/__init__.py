"""Rules, books of rules, and the deeds that are done by them."""
