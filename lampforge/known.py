"""The pass that leaves out gates with known ends, with two ends of one knot, and gates that stand twice."""

from lampforge.bench import Bench
from lampforge.build import ends_on, gatewise_paper


def known(work):
    """The work without such gates, and the paper for both."""
    # The bench makes no such gate.
    bench = Bench(work[0])
    boxes = [bench.box(first) for first, end in work[1]]
    ends = ends_on(bench, work, boxes)
    for place, box in enumerate(work[1]):
        bench.drive(boxes[place], ends[box[1]])
    new = bench.work([ends[end] for end in work[3]])
    return (new, gatewise_paper(work, new, ends))
