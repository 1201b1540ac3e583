"""wherelaid: scales on legs, judged for all ways to share a load."""
