"""Bakeahead: on which days to light the oven."""
