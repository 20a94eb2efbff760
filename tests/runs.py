"""Right policies, and guests and schedules by a random source with a fixed start, for tests of whole runs."""

from guestlives.guest import Guest
from guestlives.ops import OPS, encode, operand_limit

# Policies that are right by points 97 and 98: for guests of processor 0 alone, and for all guests.
ALONE = (
    "single flush_exit check_entry",
    "stop_store eager check_entry",
    "stop_store flush_exit map_inspect keep_dropped flush_source map_fault check_entry poll_entry",
    "invalidate_store track_frames track_second leave_self flush_exit map_inspect keep_dropped flush_source "
    "flush_fault prompt_store check_entry",
    "invalidate_store track_frames stop_page leave_self invalidate_map invalidate_rights key_level no_links "
    "eager prompt_store",
    "invalidate_store track_frames track_second stop_store invalidate_map invalidate_rights key_level cut_links "
    "clear_links flush_exit map_inspect keep_dropped flush_source map_fault poll_backward",
)
ALL = (
    "single eager check_entry",
    "invalidate_store invalidate_device track_frames track_second invalidate_map invalidate_rights leave_self "
    "leave_other hold_slot check_entry eager prompt_store",
    "invalidate_store invalidate_device track_frames track_prepared stop_page invalidate_map invalidate_rights "
    "key_level leave_other hold_slot stop_store no_links flush_exit map_inspect keep_dropped flush_source "
    "map_fault map_leave poll_backward",
    "invalidate_store invalidate_device track_frames track_prepared track_second invalidate_map invalidate_rights "
    "key_level leave_self leave_other cut_links clear_links hold_slot flush_exit map_inspect keep_dropped "
    "flush_source flush_fault map_leave prompt_store poll_entry",
)
WEIGHTS = {"store": 8, "set": 8, "print": 6, "halt": 1, "call": 1, "lower": 1, "disable": 1}


def any_instruction(random):
    names = [name for name, _ in OPS]
    name = random.choices(names, [WEIGHTS.get(name, 3) for name in names])[0]
    kinds = dict(OPS)[name]
    return encode(name, [random.randrange(10 if kind == "n" else operand_limit(kind)) for kind in kinds])


def any_guest(random, other, device):
    cells = []
    while len(cells) < 64:
        cells.extend(any_instruction(random))
    pages = [(random.choice((page, page, random.randrange(4))), random.choice((7, 7, 7, 5, 3))) for page in range(4)]
    starts = (random.randrange(64), random.randrange(64) if other else None)
    writes = [(random.randrange(4), random.randrange(16), random.randrange(20)) for _ in range(8 * device)]
    frames = [cells[16 * frame:16 * frame + 16] for frame in range(4)]
    return Guest(frames, pages, starts, (random.randrange(64), random.randrange(64)), writes)


def any_schedule(random, other, device, length):
    actions = ["g0"] * 12 + ["r0", "i0", "p0"] + (["g1"] * 12 + ["r1", "i1", "p1"]) * other + ["d"] * 2 * device
    return [random.choice(actions) for _ in range(length)]
