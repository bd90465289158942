"""Carriedfields: what an object must take along when it is copied, saved, or moved to an edited class."""
