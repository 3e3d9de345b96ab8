package hist

import "math/bits"

// place is the number of v's bucket.
func place(fine int, v uint64) int {
	if v == 0 {
		return 0
	}
	behind := bits.Len64(v) - 1
	// Shifted as far as this, the first digit is gone, the others lead, and zeros are behind them, however few they are.
	rest := v << (64 - behind)
	return 1 + behind<<fine + int(rest>>(64-fine))
}

// bounds are the least and the greatest value of a bucket; what is wrong is that it has none.
func bounds(fine int, at int) (uint64, uint64, error) {
	var behind int
	var rest, first uint64
	err := digits(fine)
	if err != nil {
		goto none
	}
	if at < 0 || at > 64<<fine {
		err = fault("a bucket that there is not")
		goto none
	}
	if at == 0 {
		return 0, 0, nil
	}
	behind = (at - 1) >> fine
	rest = uint64(at-1) << (64 - fine)
	// Values of few digits have zeros alone where others have those that tell them apart.
	if rest<<behind != 0 {
		err = fault("a bucket that no value is in")
		goto none
	}
	first = 1<<behind + rest>>(64-behind)
	return first, first + (1<<behind-1)>>fine, nil
none:
	return 0, 0, err
}

// coarse is the bucket that has a bucket's values, when one digit less tells them apart.
func coarse(at int) int {
	// That of 0 stays alone; of the others two by two become one: 1 and 2, 3 and 4, and so on.
	return (at + 1) / 2
}
