"""Latekinds: is it one of these, told by one comparison for ever, whatever kinds still come."""
