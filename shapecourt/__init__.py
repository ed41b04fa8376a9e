"""Shapecourt: cases told by shapes, each word on them shown by a value or by a paper."""
