"""A shop that keeps words under names, and promises about them."""
