// Package times: how times that were measured count.
package times

import (
	"math/bits"

	"couriers/api"
)

// Bucket gives the least and the greatest number of the bucket of a time; 0 and 0, if time is not 0 to MaxTime.
func Bucket(time int) (least, greatest int) {
	if time < 0 || time > api.MaxTime {
		return 0, 0
	}
	width := bucketWidth(time)
	least = time - time%width
	return least, least + width - 1
}

// bucketWidth is a quarter of the power of two that time reaches; below 4 a quarter is no whole number, so each time is a bucket alone.
func bucketWidth(time int) int {
	if time < 4 {
		return 1
	}
	return 1 << (bits.Len(uint(time)) - 3)
}
