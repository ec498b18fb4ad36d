"""What all other parts rest on: integers, letters, texts, names and turns."""
