"""Calmfabric: networks without deadlock."""
