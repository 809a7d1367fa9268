"""Watchers on strips of like pieces, who tell all places apart."""
