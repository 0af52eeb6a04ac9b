"""Farapart: how far two numbers of a program can ever be from one another."""
