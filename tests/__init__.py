"""The tests of latekinds; `python3 -m unittest discover -s tests -t .` runs them."""
