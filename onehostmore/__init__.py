"""Onehostmore: jobs that clash, put on hosts as they come."""
