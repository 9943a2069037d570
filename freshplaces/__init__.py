"""Kept values: where they are right, and the cheapest updates."""
