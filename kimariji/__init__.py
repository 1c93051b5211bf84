"""Kimariji: snatched verses, and the syllable from which a touch is safe."""
