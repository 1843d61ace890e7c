"""Everypast: what is certain in every past that fits the finds."""
