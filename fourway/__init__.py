"""Fourway: nets of four ends at each place, and the rounds that choices leave."""
