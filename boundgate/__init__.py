"""Boundgate: small programs let into a house, with tables that show that they never fault."""
