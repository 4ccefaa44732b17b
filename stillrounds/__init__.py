"""Stillrounds: which rounds find out, never too early, that all work is over."""
