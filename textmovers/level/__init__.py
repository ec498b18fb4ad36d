"""All texts of one length at once: their pieces, and the turns that words make of them."""
