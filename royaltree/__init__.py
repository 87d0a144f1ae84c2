"""Royaltree: works made from works, and whose each coin is."""
