"""Orders told by few rows."""
