"""Parts between mark lines, and what relays make of them."""
