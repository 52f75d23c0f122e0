"""Bounds: between which views the horizon of a cleaning was."""

from whoheld.slots import ENDER, MAKER, OLD, is_version


def floor_in(fates, images, row):
    """The floor of a clean or tidy row, by the fates and the page image ahead of it."""
    removed = [images[slot] for slot in row[2]]
    commits = [fates.commit_row(image[ENDER]) for image in removed if not fates.is_aborted(image[MAKER])]
    if row[0] == "clean":
        commits = commits + [fates.commit_row(images[slot][MAKER]) for slot in row[3]]
    return max([commit for commit in commits if commit is not None], default=-1)


def ceiling_in(fates, images):
    """The ceiling of a clean row, by the fates and the page image behind it, or None."""
    left = [image for image in images if is_version(image)]
    commits = [fates.commit_row(image[ENDER]) for image in left]
    commits = commits + [fates.commit_row(image[MAKER]) for image in left if not image[OLD]]
    return min([commit for commit in commits if commit is not None], default=None)
