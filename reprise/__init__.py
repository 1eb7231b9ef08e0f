"""Reprise: a lost song that is known by its refrains."""
