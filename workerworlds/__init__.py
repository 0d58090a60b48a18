"""Workerworlds: when a pool of workers answers like a plain loop."""
