"""Idealcore: polynomial ideals with certificates."""
