"""Ownlabels: taking turns over cells that every worker numbers differently."""
