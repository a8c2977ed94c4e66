"""Homereads: finding where short texts come from."""
