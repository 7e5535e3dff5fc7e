package audit

import "testing"

// P18.2: each way in which a page's rows can't be, by itself, beside rows that may be. Some of them no call of a page brings about: so they are told here.
func TestIsWrong(t *testing.T) {
	for _, x := range []struct {
		what                 string
		made, used           int
		ready, local, posted []uint64
		wrong                bool
	}{
		{"nothing made", 0, 0, nil, nil, nil, false},
		{"one used of four", 4, 1, []uint64{32, 48, 64}, nil, nil, false},
		{"rows of all three", 4, 2, []uint64{16}, []uint64{32}, []uint64{48}, false},
		{"all used", 4, 4, nil, nil, nil, false},
		{"all used are posted", 4, 4, nil, nil, []uint64{16, 32, 48, 64}, false},
		{"none used, as long as it isn't tidied", 4, 0, []uint64{16, 32}, []uint64{48, 64}, nil, false},
		{"in the first two", 4, 1, []uint64{16, 32}, []uint64{32}, nil, true},
		{"first of one, last of the other", 4, 0, []uint64{16, 32}, []uint64{48, 16}, nil, true},
		{"in the first and the third", 4, 2, []uint64{16, 32}, nil, []uint64{16}, true},
		{"in the second and the third", 4, 2, nil, []uint64{16, 32}, []uint64{64, 32}, true},
		{"in all three", 4, 2, []uint64{16}, []uint64{16}, []uint64{16}, true},
		{"twice in the first", 4, 2, []uint64{16, 16}, nil, nil, true},
		{"twice in the second", 4, 1, nil, []uint64{16, 32, 16}, nil, true},
		{"twice in the third", 4, 4, nil, nil, []uint64{16, 48, 48}, true},
		{"one too few free", 4, 1, []uint64{32, 48}, nil, nil, true},
		{"one too many free", 4, 2, []uint64{32, 48}, []uint64{64}, nil, true},
		{"one too few used", 4, 0, []uint64{32}, []uint64{48, 64}, nil, true},
		{"too few made", 3, 2, []uint64{32}, []uint64{48}, nil, true},
		{"posted ones counted beside the used ones", 4, 1, []uint64{16, 32}, nil, []uint64{48}, true},
		{"as many posted as used", 4, 1, []uint64{16, 32, 48}, nil, []uint64{64}, false},
		{"more posted than used", 4, 1, []uint64{16, 32, 48}, nil, []uint64{64, 80}, true},
		{"posted, and none used", 4, 0, []uint64{16, 32, 48}, []uint64{64}, []uint64{80}, true},
	} {
		if is := isWrong(x.made, x.used, x.ready, x.local, x.posted); is != x.wrong {
			t.Errorf("%s: %t", x.what, is)
		}
	}
}
