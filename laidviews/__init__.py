"""Laidviews: pictures of one ground, laid together."""
