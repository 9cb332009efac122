"""Boardglue: boards cut along and across the grain, and glued anew."""
