"""What became of rows and columns, in all best alignments of two tables."""
