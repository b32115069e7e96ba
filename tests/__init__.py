"""The tests of untoldprimes."""
