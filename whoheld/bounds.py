"""Bounds: between which views the horizon of a cleaning was."""

from whoheld.slots import ENDER, MAKER, OLD, is_version


def floor_in(state, images, row):
    """The floor of a clean or tidy row, by the state behind it and the page image ahead of it."""
    # A cleaning changes no fate, so those behind it are those ahead of it.
    removed = [images[slot] for slot in row[2]]
    commits = [state.commit_row(image[ENDER]) for image in removed if not state.is_aborted(image[MAKER])]
    if row[0] == "clean":
        commits = commits + [state.commit_row(images[slot][MAKER]) for slot in row[3]]
    return max([commit for commit in commits if commit is not None], default=-1)


def ceiling_in(state, images):
    """The ceiling of a clean row, by the state and the page image behind it, or None."""
    left = [image for image in images if is_version(image)]
    commits = [state.commit_row(image[ENDER]) for image in left]
    commits = commits + [state.commit_row(image[MAKER]) for image in left if not image[OLD]]
    return min([commit for commit in commits if commit is not None], default=None)
