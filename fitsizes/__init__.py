"""Fitsizes: which sizes go through a pipeline of windows, and what needs what."""
