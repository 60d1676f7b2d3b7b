package script

import "testing"

// The example of README.md.
func TestReadme(t *testing.T) {
	s, line, e := Run("disks 4000 4000\ninit vg 7 4 2100\nstart\ncommand 3 data - 10 2 4 4 - 0 1 -\nwrite data 5 42\nflush data\nrestart -\nstart\nread data 5\ncheck\n")
	if s != "ok\nok\nok\nok\nok\nok\nok\nok 42\nok 0\n" || line != 0 || e != 0 {
		t.Errorf("%q, %d, %d", s, line, e)
	}
}
