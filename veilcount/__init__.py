"""Votes through mixers: exact counts, and no lot of mixers learns who gave what."""
