"""Packing pieces into boxes whose sizes are powers of two."""


def first_room(rooms, size):
    """Return the index of the first box that has room for the size, or the number of boxes."""
    for at, room in enumerate(rooms):
        if room >= size:
            return at
    return len(rooms)


def first_fit(box, sizes):
    """Return the boxes of first fit by falling sizes, each a list of the indexes of its pieces."""
    boxes = []
    rooms = []
    order = sorted([(-size, piece) for piece, size in enumerate(sizes)])
    for _, piece in order:
        at = first_room(rooms, sizes[piece])
        if at == len(boxes):
            boxes.append([])
            rooms.append(box)
        boxes[at].append(piece)
        rooms[at] = rooms[at] - sizes[piece]
    return boxes


def accepts_packing(box, sizes, boxes):
    """Tell whether the boxes are a packing with as few boxes as possible."""
    found = sorted([piece for pieces in boxes for piece in pieces])
    if found != list(range(len(sizes))):
        return False
    loads = [sum([sizes[piece] for piece in pieces]) for pieces in boxes]
    return (
        all([len(pieces) > 0 for pieces in boxes])
        and all([load <= box for load in loads])
        and len([load for load in loads if load < box]) <= 1
    )
