"""Pedalrounds: rounds of sound that are laid over one another by presses."""
