package journal_test

import (
	"os"
	"runtime/debug"
	"testing"
)

// TestMain collects memory less often: the tests make thousands of stores, and would spend most of their time on that.
func TestMain(m *testing.M) {
	debug.SetGCPercent(1600)
	os.Exit(m.Run())
}
