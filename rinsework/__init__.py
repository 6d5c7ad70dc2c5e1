"""Rinsework: cloths in hues, dyed one behind the other, with rinses between."""
