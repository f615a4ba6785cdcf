"""Innerlook: a machine of things that look within, and how far they may."""
