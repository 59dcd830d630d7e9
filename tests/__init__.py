"""The tests of tieskept: python3 -m unittest discover -s tests -t ."""
