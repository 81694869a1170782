"""Commitments backed by uncertain deliveries (robust inventory planning)."""
