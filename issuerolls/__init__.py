"""A gazette: from the issues that are known, in whatever order they came, the files are rebuilt."""
