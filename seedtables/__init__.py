"""Seedtables: families of functions drawn by a seed."""
