"""Tastehouse: tastings, and the pots that must be ready for them."""
