"""Boxes and what may be cited, for lines that are known by their depths alone: points 36 and 37."""


class Frames:
    """The boxes of some lines, up to the first one whose depth is not within its bounds.

    A row is a pair of the depth of a line and of True if this line opens a box.
    """

    def __init__(self, rows):
        self.depths = [depth for depth, _ in rows]
        self.bad_line = 0
        # Line 0 stands for what is before the first line: it is within no box.
        self.boxes = [()]
        self.last_lines = {}
        for number, (depth, opens) in enumerate(rows, start=1):
            before = self.boxes[-1]
            least, most = (1, len(before) + 1) if opens else (0, len(before))
            if depth < least or depth > most:
                self.bad_line = number
                break
            within = before[:depth - 1] + (number,) if opens else before[:depth]
            self.boxes.append(within)
            for box in within:
                self.last_lines[box] = number

    def can_cite(self, number, cited):
        """True if a line may cite another one."""
        if cited < 1 or cited >= number:
            return False
        return all([box in self.boxes[number] for box in self.boxes[cited]])

    def can_cite_box(self, number, opening):
        """True if a line may cite the box that another one opens."""
        if opening not in self.last_lines or opening >= number or opening in self.boxes[number]:
            return False
        if any([box not in self.boxes[number] for box in self.boxes[opening][:-1]]):
            return False
        return self.depths[self.last_lines[opening] - 1] == self.depths[opening - 1]
