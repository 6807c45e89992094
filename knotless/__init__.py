"""Knotless: houses joined by ropes in rings, and letters that never go round."""
