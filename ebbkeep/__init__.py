"""Ebbkeep: machines that come and go with their work."""
