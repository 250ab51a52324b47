"""Papers that show that no deeds lead from one standing to another."""
