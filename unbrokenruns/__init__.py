"""Unbrokenruns: stretches of thread programs that behave as one step, for any number of threads."""
