"""Cornerlines: lines drawn on whole corners."""
