"""Changewhile: programs changed while they run."""
