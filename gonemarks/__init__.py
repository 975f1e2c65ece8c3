"""Gonemarks: copies that forget what is gone, and papers that it is safe."""
