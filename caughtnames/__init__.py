"""Templates that are put in as text, and exactly which names they catch."""
