"""Untoldprimes: primes counted to great bounds without listing."""
