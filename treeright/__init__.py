"""One right along a tree: asks led toward it, arrows that turn as it comes."""
