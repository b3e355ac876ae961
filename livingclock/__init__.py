"""Livingclock: a clock whose wheels are exchanged while it runs."""
