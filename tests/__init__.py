"""The tests of fewreleases."""
