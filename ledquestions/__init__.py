"""Questions over rows and rules, led to questions over the rows alone."""
