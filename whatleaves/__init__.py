"""Whatleaves: which errors leave a function, whatever its callbacks and later classes do."""
