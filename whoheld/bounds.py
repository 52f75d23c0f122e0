"""Bounds: between which views the horizon of a cleaning was."""

from whoheld.slots import ENDER, MAKER, OLD, is_version


def commit_in(state, number):
    """The commit of a number in a state, or None, also for None."""
    if number is None:
        return None
    word, row = state.fate_of(number)
    return row if word == "committed" else None


def floor_in(state, images, row):
    """The floor of a clean or tidy row, by the state behind it and the page image ahead of it."""
    # A cleaning changes no fate, so those behind it are those ahead of it.
    removed = [images[slot] for slot in row[2]]
    marked = [images[slot] for slot in row[3]] if row[0] == "clean" else []
    kept = [image for image in removed if state.fate_of(image[MAKER])[0] != "aborted"]
    commits = [commit_in(state, image[ENDER]) for image in kept]
    commits = commits + [commit_in(state, image[MAKER]) for image in marked]
    return max(commits, default=-1)


def ceiling_in(state, images):
    """The ceiling of a clean row, by the state and the page image behind it, or None."""
    left = [image for image in images if is_version(image)]
    commits = [commit_in(state, image[ENDER]) for image in left]
    commits = commits + [commit_in(state, image[MAKER]) for image in left if not image[OLD]]
    return min([commit for commit in commits if commit is not None], default=None)
