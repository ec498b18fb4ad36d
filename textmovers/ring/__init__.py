"""The rings in which texts are led round, how often moves must be done, and which go round all texts."""
