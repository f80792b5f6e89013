"""Stylehouse: a house of sheets, laid out exactly."""
