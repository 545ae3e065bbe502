"""Voteclashes: any rule of choosing by rankings, and which axioms go together."""
