"""Functions on curves over a small prime, told by how they begin at places."""
