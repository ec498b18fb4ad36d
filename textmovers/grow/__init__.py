"""How many rests of a move are not idle, length by length."""
