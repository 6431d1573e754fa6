"""Queues that keep one entry per key, and what their logs tell."""
