"""The floor of six-sided cells, and addresses of figures."""
