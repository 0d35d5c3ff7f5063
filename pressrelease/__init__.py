"""Panels of buttons that release one another."""
