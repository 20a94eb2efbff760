"""The numbers that bound guests, machines and settings (point 3)."""

FRAMES = 4
CELLS = 16
PAGES = 4
ADDRESSES = 64
NUMBERS = 256
REGISTERS = 4
PROCESSORS = 2

# The flags are one value, numbered behind the registers.
FLAGS = 4

READ = 4
WRITE = 2
EXECUTE = 1

# How many sums of these three rights there are.
RIGHTS = 8

MOST_SLOTS = 8
MOST_LONGEST = 8
MOST_HOT = 8

# A joined block has at most twice as many parts as other blocks.
MOST_JOINED = 16

MOST_ACTIONS = 1000
MOST_WRITES = 64
