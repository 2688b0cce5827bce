"""Things, the traits they share, and the rules that hold among them."""
