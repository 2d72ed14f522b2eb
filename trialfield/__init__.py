"""Trialfield: plans of trials whose effects can be told apart."""
