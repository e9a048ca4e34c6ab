"""Letahead: queues in which some let others ahead."""
