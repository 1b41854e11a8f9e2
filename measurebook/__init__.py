"""A book of measures."""
