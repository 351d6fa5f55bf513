"""What the runs need of values, for themselves."""
