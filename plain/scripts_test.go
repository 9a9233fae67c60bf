package plain

import (
	"fmt"
	"slices"
	"testing"

	"commonage/api"
)

// Promise 23.1: from fork to wait: who is whose child, whose zombie, and whose no more.
func TestProcesses(t *testing.T) {
	x := play(t, plan(5, "g"), `
		do 0.0 fork => 0.0 fork =1
		do 0.1 pid => 0.1 pid =1
		do 0.1 parent => 0.1 parent =0
		do 0.0 wait
		do 0.1 exit 300 => 0.1 exit =0
		pick 0.1 x3
		0.1 pid
		pick 0.1 x3
		pick 0.0 x2
		pick 0.0 => 0.0 wait =300
		do 0.0 wait => 0.0 wait !10
		do 0.0 fork => 0.0 fork =1
		do 0.1 fork => 0.1 fork =2
		do 0.1 fork => 0.1 fork =3
		do 0.0 fork => 0.0 fork =4
		do 0.0 fork => 0.0 fork =5
		do 0.2 exit 1 => 0.2 exit =0
		do 0.1 exit -1 => 0.1 exit =0
		do 0.3 parent => 0.3 parent =-1
		do 0.5 exit 5 => 0.5 exit =0
		do 0.4 exit 256 => 0.4 exit =0
		do 0.0 fork => 0.0 fork =2
		do 0.3 wait => 0.3 wait !10
		do 0.0 wait => 0.0 wait =511
		do 0.0 wait => 0.0 wait =1024
		do 0.0 wait => 0.0 wait =1285
		do 0.3 exit 9 => 0.3 exit =0
		do 0.0 wait
		do 0.2 fork => 0.2 fork =1
		do 0.2 exit 255 => 0.2 exit =0
		pick 0.0 x2
		pick 0.0 => 0.0 wait =767
		do 0.0 wait => 0.0 wait !10
		do 0.1 parent => 0.1 parent =-1
	`)
	want := make([]api.Proc, 8)
	want[0], want[1] = api.Proc{State: 1, Fds: [8]int{1}}, api.Proc{State: 1, Fds: [8]int{1}}
	if got := x.u.Procs(0); !slices.Equal(got, want) {
		t.Error(got)
	}
}

// Promise 23.1: the code of who exits is told modulo 256, as a number of 0 or more.
func TestCodes(t *testing.T) {
	x := begin(t, plan(5, "g"))
	for _, n := range wild {
		x.plays("do 0.0 fork => 0.0 fork =1")
		for _, s := range []api.Step{call(0, 1, sys(api.UExit, n, 0)), pick(0, 1), pick(0, 1)} {
			x.does(s)
		}
		x.plays("do 0.0 wait => 0.0 wait =" + fmt.Sprint(256+int(uint8(n))))
	}
}

// Promise 23.1: there are eight slots; who is forked is like who forks, but with nothing pending.
func TestFork(t *testing.T) {
	x := play(t, plan(5, "gg"), `
		do 0.0 sig 3 2 => 0.0 sig =0
		do 0.0 sig 5 1 => 0.0 sig =0
		do 0.0 mask 84 => 0.0 mask =0
		do 0.0 kill 0 4 => 0.0 kill =0
		do 0.0 group 0 6 => 0.0 group !1
		do 0.0 fork => 0.0 fork =1
		do 0.0 fork => 0.0 fork =2
		do 0.2 group 2 2 => 0.2 group =0
		do 0.2 fork => 0.2 fork =3
		do 0.3 fork => 0.3 fork =4
		do 0.4 fork => 0.4 fork =5
		do 0.5 fork => 0.5 fork =6
		do 0.6 fork => 0.6 fork =7
		do 0.7 fork => 0.7 fork !11
		do 0.4 exit 0 => 0.4 exit =0
		do 0.7 fork => 0.7 fork !11
		do 0.1 exit 0 => 0.1 exit =0
		do 0.0 wait => 0.0 wait =256
		do 0.3 wait => 0.3 wait =1024
		do 0.7 fork => 0.7 fork =1
		do 0.7 fork => 0.7 fork =4
		do 1.0 fork => 1.0 fork =1
	`)
	p := api.Proc{State: 1, Mask: 84, Ignored: 32, Caught: 8, Fds: [8]int{1}}
	want := slices.Repeat([]api.Proc{p}, 8)
	for i, parent := range []int{0, 8, 1, 3, 8, 0, 6, 7} {
		want[i].Parent = parent
		want[i].Group = 2
	}
	want[0].Pending, want[0].Group = 16, 0
	if got := x.u.Procs(0); !slices.Equal(got, want) {
		t.Errorf("%v, want %v", got, want)
	}
}

// Promise 23.1: signals: caught, ignored, kept off, stopped and died of.
func TestSignals(t *testing.T) {
	x := play(t, plan(5, "g"), `
		do 0.0 fork => 0.0 fork =1
		do 0.1 sig 4 2 => 0.1 sig =0
		do 0.1 sig 6 2 => 0.1 sig =0
		do 0.1 sig 7 1 => 0.1 sig =0
		do 0.1 mask 9999 => 0.1 mask =0
		do 0.1 mask 32 => 0.1 mask =9486
		do 0.0 kill 1 7 => 0.0 kill =0
		do 0.0 kill 1 5 => 0.0 kill =0
		pick 0.1
		do 0.0 kill 1 6 => 0.0 kill =0
		do 0.0 kill 1 4 => 0.0 kill =0
		do 0.0 kill 1 15 => 0.0 kill =0
		pick 0.1 => 0.1 caught 4,6
		pick 0.1
		do 0.0 kill 1 14 => 0.0 kill =0
		pick 0.1 x2
		0.1 mask 0
		pick 0.1 x3
		do 0.0 kill 1 15 => 0.0 kill =0
		pick 0.1
		pick 0.1 => 0.1 mask =32 died 5
		do 0.0 wait => 0.0 wait =389
		do 0.0 fork => 0.0 fork =1
		do 0.1 mask 9999 => 0.1 mask =0
		do 0.0 kill 1 3 => 0.0 kill =0
		do 0.0 kill 1 9 => 0.0 kill =0
		pick 0.1 => 0.1 died 9
		do 0.0 kill 1 9 => 0.0 kill =0
		do 0.0 wait => 0.0 wait =393
		do 0.0 fork => 0.0 fork =1
		do 0.0 kill 1 14 => 0.0 kill =0
		do 0.1 pid => 0.1 pid =1
		0.1 pid
		pick 0.1 x3
		do 0.0 kill 1 9 => 0.0 kill =0
		pick 0.1
		pick 0.1 => 0.1 pid =1 died 9
		do 0.0 kill 0 9 => 0.0 kill =0 died 9
		pick 0.0 x3
		0.0 pid
		pick 0.0
	`)
	if got := x.u.Procs(0); !slices.Equal(got, make([]api.Proc, 8)) {
		t.Error(got)
	}
}

// Promise 23.1: what mask and sig refuse, and whom a signal may be for.
func TestKill(t *testing.T) {
	x := play(t, plan(5, "g"), `
		do 0.0 mask -1 => 0.0 mask !22
		do 0.0 sig 0 1 => 0.0 sig !22
		do 0.0 sig 16 1 => 0.0 sig !22
		do 0.0 sig 9 1 => 0.0 sig !22
		do 0.0 sig 14 2 => 0.0 sig !22
		do 0.0 sig 3 3 => 0.0 sig !22
		do 0.0 sig 3 -1 => 0.0 sig !22
		do 0.0 sig 3 2 => 0.0 sig =0
		do 0.0 fork => 0.0 fork =1
		do 0.0 fork => 0.0 fork =2
		do 0.0 fork => 0.0 fork =3
		do 0.0 fork => 0.0 fork =4
		do 0.0 group 2 2 => 0.0 group =0
		do 0.0 group 4 2 => 0.0 group =0
		do 0.0 group 3 3 => 0.0 group =0
		do 0.4 exit 0 => 0.4 exit =0
		do 0.3 exit 0 => 0.3 exit =0
		do 0.1 kill -1 3 => 0.1 kill !22
		do 0.1 kill 16 3 => 0.1 kill !22
		do 0.1 kill 0 -1 => 0.1 kill !22
		do 0.1 kill 0 16 => 0.1 kill !22
		do 0.1 kill 5 16 => 0.1 kill !22
		do 0.1 kill 5 3 => 0.1 kill !3
		do 0.1 kill 7 0 => 0.1 kill !3
		do 0.1 kill 11 3 => 0.1 kill !3
		do 0.1 kill 15 0 => 0.1 kill !3
		do 0.1 kill 3 3 => 0.1 kill =0
		do 0.1 kill 4 9 => 0.1 kill =0
		do 0.1 kill 2 0 => 0.1 kill =0
		do 0.1 kill 8 0 => 0.1 kill =0
		pick 0.0
		pick 0.2
		do 0.1 kill 10 3 => 0.1 kill =0
		pick 0.0
		pick 0.2 => 0.2 caught 3
		do 0.1 kill 8 3 => 0.1 kill =0 caught 3
		pick 0.0 => 0.0 caught 3
		pick 0.2
		do 0.1 kill 1 15 => 0.1 kill =0
		do 0.1 kill 0 15 => 0.1 kill =0
		pick 0.0
	`)
	old := 0
	for _, m := range append([]int{65534, 48638, 16896}, wild...) {
		for _, s := range []api.Step{call(0, 0, sys(api.UMask, m, 0)), pick(0, 0)} {
			x.does(s)
		}
		want := "0.0 mask !22"
		if m >= 0 && m <= 65535 {
			want = fmt.Sprint("0.0 mask =", old)
			old = m & 48638
		}
		if got := told(x.does(pick(0, 0))); got != want {
			t.Error(m, got, want)
		}
	}
}

// Promise 23.1: a new group is its own, or one that somebody has; of another one just who made it may say so, while it goes on.
func TestGroups(t *testing.T) {
	play(t, plan(5, "g"), `
		do 0.0 fork => 0.0 fork =1
		do 0.0 fork => 0.0 fork =2
		do 0.1 fork => 0.1 fork =3
		do 0.0 group -1 0 => 0.0 group !22
		do 0.0 group 8 0 => 0.0 group !22
		do 0.0 group 1 -1 => 0.0 group !22
		do 0.0 group 1 8 => 0.0 group !22
		do 0.0 group 7 8 => 0.0 group !22
		do 0.0 group 3 0 => 0.0 group !3
		do 0.0 group 7 7 => 0.0 group !3
		do 0.1 group 0 0 => 0.1 group !3
		do 0.1 group 2 0 => 0.1 group !3
		do 0.0 group 1 2 => 0.0 group !1
		do 0.0 group 1 1 => 0.0 group =0
		do 0.0 group 2 1 => 0.0 group =0
		do 0.2 getgroup => 0.2 getgroup =1
		do 0.3 group 3 1 => 0.3 group =0
		do 0.3 group 3 3 => 0.3 group =0
		do 0.0 group 0 3 => 0.0 group =0
		do 0.0 getgroup => 0.0 getgroup =3
		do 0.0 group 2 2 => 0.0 group =0
		do 0.2 exit 0 => 0.2 exit =0
		do 0.0 group 2 2 => 0.0 group !3
		do 0.0 group 0 2 => 0.0 group !1
		do 0.0 kill 1 14 => 0.0 kill =0
		pick 0.1
		do 0.0 group 0 1 => 0.0 group =0
		do 0.0 group 1 0 => 0.0 group !1
		do 0.0 group 1 3 => 0.0 group =0
		do 0.0 group 0 0 => 0.0 group =0
	`)
}

// Promise 23.1: the terminal is the front group's, which alone may hand that on, to one that is there.
func TestTerminal(t *testing.T) {
	play(t, plan(5, "gg"), `
		do 0.0 fork => 0.0 fork =1
		do 0.0 fork => 0.0 fork =2
		do 0.0 group 1 1 => 0.0 group =0
		do 0.0 group 2 2 => 0.0 group =0
		do 0.2 exit 0 => 0.2 exit =0
		do 0.1 read 0 4 => 0.1 read !25
		do 0.1 read 0 0 => 0.1 read !25
		do 0.1 read 0 33 => 0.1 read !22
		0.0 read 0 4
		pick 0.0 x3
		type 1.0 09
		pick 0.0
		type 0.1 0506
		pick 0.0 x2
		pick 0.0 => 0.0 read =2:0506
		do 0.1 front 1 => 0.1 front !1
		do 0.1 front 8 => 0.1 front !22
		do 0.0 front -1 => 0.0 front !22
		do 0.0 front 2 => 0.0 front !1
		do 0.0 front 7 => 0.0 front !1
		do 0.0 read 0 4
		do 0.1 write 0 01 => 0.1 write !9
		do 0.0 pid
		type 0.0 07
		pick 0.0 x2
		pick 0.0 => 0.0 read =1:07
		do 0.0 front 1 => 0.0 front =0
		do 0.0 read 0 4 => 0.0 read !25
		do 0.0 read 0 -1 => 0.0 read !22
		do 0.1 front 1 => 0.1 front =0
		type 0.0 08090a
		do 0.1 read 0 2 => 0.1 read =2:0809
		do 0.1 read 0 0 => 0.1 read =0
		do 1.0 read 0 4 => 1.0 read =1:09
		do 0.1 now 0 1 => 0.1 now =0
		do 0.1 read 0 4 => 0.1 read =1:0a
		do 0.1 read 0 4 => 0.1 read !11
		do 0.0 close 0 => 0.0 close =0
		do 0.0 read 0 4 => 0.0 read !9
		do 0.1 read 0 4 => 0.1 read !11
		do 0.1 kill 0 14 => 0.1 kill =0
		pick 0.0
		do 0.1 front 0 => 0.1 front =0
	`)
}

// Promise 23.1: who reads the terminal and isn't of the front group any more when something is typed is told so.
func TestNotInFront(t *testing.T) {
	play(t, plan(5, "g"), `
		do 0.0 fork => 0.0 fork =1
		0.1 read 0 4
		pick 0.1 x3
		do 0.0 group 1 1 => 0.0 group =0
		pick 0.1
		type 0.0 01
		pick 0.1 x2
		pick 0.1 => 0.1 read !25
	`)
}

// Promise 23.1: a pipe is a queue of 32 bytes, small writes are whole, and its end is seen when it is empty and nobody is left who writes it.
func TestPipes(t *testing.T) {
	play(t, plan(5, "g"), `
		do 0.0 pipe => 0.0 pipe =33
		do 0.0 fork => 0.0 fork =1
		do 0.1 close 1 => 0.1 close =0
		do 0.0 close 2 => 0.0 close =0
		do 0.0 read 2 1 => 0.0 read !9
		do 0.0 write 1 01 => 0.0 write !9
		do 0.1 read 2 1 => 0.1 read !9
		do 0.0 read 8 1 => 0.0 read !9
		do 0.0 read -1 1 => 0.0 read !9
		do 0.0 write 8 01 => 0.0 write !9
		do 0.0 read 1 33 => 0.0 read !22
		do 0.0 read 1 -1 => 0.0 read !22
		do 0.0 read 1 0 => 0.0 read =0
		do 0.1 write 2 000102030405060708090a0b0c0d0e0f101112131415161718191a1b1c1d1e1f20 => 0.1 write !22
		do 0.1 write 2 - => 0.1 write =0
		0.0 read 1 8
		pick 0.0 x4
		do 0.1 write 2 0102030405 => 0.1 write =5
		pick 0.0 x2
		pick 0.0 => 0.0 read =5:0102030405
		do 0.1 write 2 000102030405060708090a0b0c0d0e0f101112131415161718191a1b1c1d1e1f => 0.1 write =32
		do 0.1 write 2 40
		pick 0.1 x3
		do 0.0 read 1 7 => 0.0 read =7:00010203040506
		pick 0.1 x2
		pick 0.1 => 0.1 write =1
		do 0.1 write 2 4142434445464748
		do 0.0 read 1 1 => 0.0 read =1:07
		pick 0.1 x3
		do 0.0 read 1 1 => 0.0 read =1:08
		pick 0.1 x2
		pick 0.1 => 0.1 write =8
		do 0.1 write 2 494a4b4c4d4e4f5051
		pick 0.1 x3
		do 0.0 read 1 3 => 0.0 read =3:090a0b
		pick 0.1 x2
		pick 0.1 => 0.1 write =3
		do 0.0 read 1 32 => 0.0 read =32:0c0d0e0f101112131415161718191a1b1c1d1e1f404142434445464748494a4b
		do 0.1 now 2 1 => 0.1 now =0
		do 0.1 write 2 000102030405060708090a0b0c0d0e0f101112131415161718 => 0.1 write =25
		do 0.1 write 2 2021222324252627 => 0.1 write !11
		do 0.1 write 2 202122232425262728 => 0.1 write =7
		do 0.1 write 2 202122232425262728 => 0.1 write !11
		do 0.0 read 1 31 => 0.0 read =31:000102030405060708090a0b0c0d0e0f101112131415161718202122232425
		do 0.1 exit 0 => 0.1 exit =0
		do 0.0 read 1 32 => 0.0 read =1:26
		do 0.0 read 1 32 => 0.0 read =0
		do 0.0 now 1 1 => 0.0 now =0
		do 0.0 read 1 32 => 0.0 read =0
		do 0.0 read 1 0 => 0.0 read =0
	`)
}

// Promise 23.1: who waits for bytes of a pipe goes on when there is nobody left who could write some.
func TestEndOfPipe(t *testing.T) {
	play(t, plan(5, "g"), `
		do 0.0 pipe => 0.0 pipe =33
		do 0.0 fork => 0.0 fork =1
		do 0.0 fork => 0.0 fork =2
		do 0.2 close 2 => 0.2 close =0
		do 0.2 read 1 4
		do 0.0 close 2 => 0.0 close =0
		pick 0.2 x5
		do 0.1 close 2 => 0.1 close =0
		pick 0.2 x2
		pick 0.2 => 0.2 read =0
		do 0.0 pipe => 0.0 pipe =50
	`)
}

// Promise 23.1: who writes a pipe that nobody reads is told a signal, and the error.
func TestBrokenPipe(t *testing.T) {
	play(t, plan(5, "gg", link(0, 1)), `
		do 0.0 pipe => 0.0 pipe =50
		do 0.0 close 2 => 0.0 close =0
		do 0.0 fork => 0.0 fork =1
		do 0.0 write 3 - => 0.0 write =0
		do 0.1 write 3 01 => 0.1 write !32 died 13
		do 0.0 wait => 0.0 wait =397
		do 0.0 sig 13 1 => 0.0 sig =0
		do 0.0 write 3 01 => 0.0 write !32
		do 0.0 sig 13 2 => 0.0 sig =0
		do 0.0 write 3 01 => 0.0 write !32 caught 13
		do 0.0 mask 8192 => 0.0 mask =0
		do 0.0 write 3 01 => 0.0 write !32
		do 0.0 mask 0 => 0.0 mask =8192 caught 13
		do 1.0 close 1 => 1.0 close =0
		do 0.0 write 1 0102 => 0.0 write !32 caught 13
		do 0.0 write 1 000102030405060708090a0b0c0d0e0f101112131415161718191a1b1c1d1e1f20 => 0.0 write !22
	`)
}

// Promise 23.1: a bridge is one queue for both of its sessions, and stays when both have closed it; who waits for its bytes asks again and again.
func TestBridges(t *testing.T) {
	x := play(t, plan(5, "ggg", link(0, 1), link(2, 1)), `
		do 1.0 read 1 4
		pick 1.0
	`)
	for _, want := range []int{2, 3, 1, 2, 3, 1} {
		x.does(pick(1, 0))
		if got := x.u.Phase(1, 0); got != want {
			t.Error(got, want)
		}
	}
	x.plays(`
		do 2.0 write 1 09 => 2.0 write =1
		do 0.0 write 1 0506 => 0.0 write =2
		pick 1.0
		pick 1.0 => 1.0 read =2:0506
		do 1.0 read 2 4 => 1.0 read =1:09
		do 0.0 write 1 0708 => 0.0 write =2
		do 0.0 exit 0 => 0.0 exit =0
		do 1.0 read 1 1 => 1.0 read =1:07
		do 1.0 fork => 1.0 fork =1
		do 1.1 read 1 4 => 1.1 read =1:08
		do 1.1 read 1 4 => 1.1 read =0
		do 1.0 close 1 => 1.0 close =0
		do 1.1 close 1 => 1.1 close =0
		do 1.0 pipe => 1.0 pipe =49
		do 1.0 write 3 01 => 1.0 write =1
		do 1.0 read 1 4 => 1.0 read =1:01
		do 1.0 read 2 4
		do 2.0 close 1 => 2.0 close =0
		pick 1.0 x2
		pick 1.0 => 1.0 read =0
		do 1.1 read 2 4 => 1.1 read =0
	`)
}

// Promise 23.1: who closes the end of a bridge of a plan with several closes that one.
func TestEndsOfBridges(t *testing.T) {
	play(t, plan(5, "ggg", link(0, 1), link(1, 0), link(0, 1), link(2, 0)), `
		do 0.0 close 2 => 0.0 close =0
		do 1.0 write 2 01 => 1.0 write !32 died 13
		do 0.0 write 1 02 => 0.0 write !32 died 13
		do 2.0 write 1 02 => 2.0 write !32 died 13
	`)
	play(t, plan(5, "ggg", link(0, 1), link(1, 0), link(0, 1), link(2, 0)), `
		do 0.0 close 3 => 0.0 close =0
		do 1.0 read 3 4 => 1.0 read =0
		do 1.0 now 1 1 => 1.0 now =0
		do 1.0 read 1 4 => 1.0 read !11
		do 1.0 write 2 01 => 1.0 write =1
		do 2.0 write 1 02 => 2.0 write =1
		do 0.0 read 4 4 => 0.0 read =1:02
		do 0.0 read 2 4 => 0.0 read =1:01
	`)
}

// Promise 23.1: there are four pipes, twelve files, and eight descriptors of each process; the least free ones are taken.
func TestPipeLimits(t *testing.T) {
	play(t, plan(5, "g"), `
		do 0.0 pipe => 0.0 pipe =33
		do 0.0 pipe => 0.0 pipe =67
		do 0.0 pipe => 0.0 pipe =101
		do 0.0 pipe => 0.0 pipe !24
		do 0.0 dup 0 => 0.0 dup =7
		do 0.0 dup 0 => 0.0 dup !24
		do 0.0 pipe => 0.0 pipe !24
		do 0.0 fork => 0.0 fork =1
		do 0.1 close 7 => 0.1 close =0
		do 0.1 pipe => 0.1 pipe !24
		do 0.1 close 2 => 0.1 close =0
		do 0.1 pipe => 0.1 pipe =114
		do 0.1 close 1 => 0.1 close =0
		do 0.1 close 4 => 0.1 close =0
		do 0.1 pipe => 0.1 pipe !23
		do 0.0 close 3 => 0.0 close =0
		do 0.1 close 3 => 0.1 close =0
		do 0.0 write 4 01 => 0.0 write !32 died 13
		do 0.1 pipe => 0.1 pipe =49
		do 0.1 write 3 55 => 0.1 write =1
		do 0.1 read 1 8 => 0.1 read =1:55
		do 0.1 write 7 66 => 0.1 write =1
		do 0.1 read 2 8 => 0.1 read =1:66
	`)
}

// Promise 23.1: with bridges there may be too few files, though there is a pipe and descriptors.
func TestFileLimits(t *testing.T) {
	x := play(t, plan(5, "gg", link(0, 1), link(0, 1), link(0, 1), link(0, 1)), `
		do 0.0 fork => 0.0 fork =1
		do 0.0 fork => 0.0 fork =2
		do 0.1 pipe => 0.1 pipe =101
		do 0.1 close 0 => 0.1 close =0
		do 0.1 pipe => 0.1 pipe =112
		do 0.2 pipe => 0.2 pipe =101
		do 0.2 close 0 => 0.2 close =0
		do 0.2 pipe => 0.2 pipe !23
		do 0.1 close 0 => 0.1 close =0
		do 0.2 pipe => 0.2 pipe =112
		do 0.2 write 7 07 => 0.2 write =1
		do 0.2 read 0 8 => 0.2 read =1:07
	`)
	if got := x.u.Procs(0)[2].Fds; got != [8]int{8, 2, 3, 4, 5, 10, 11, 12} {
		t.Error(got)
	}
}

// Promise 23.1: what names one file shares it; files that are closed in another order than they came are taken by their number.
func TestDescriptors(t *testing.T) {
	play(t, plan(5, "g"), `
		do 0.0 pipe => 0.0 pipe =33
		do 0.0 pipe => 0.0 pipe =67
		do 0.0 dup 4 => 0.0 dup =5
		do 0.0 close 4 => 0.0 close =0
		do 0.0 close 4 => 0.0 close !9
		do 0.0 close 8 => 0.0 close !9
		do 0.0 close -1 => 0.0 close !9
		do 0.0 dup 4 => 0.0 dup !9
		do 0.0 dup -1 => 0.0 dup !9
		do 0.0 dup2 4 4 => 0.0 dup2 !9
		do 0.0 dup2 8 4 => 0.0 dup2 !9
		do 0.0 dup2 5 8 => 0.0 dup2 !9
		do 0.0 dup2 5 -1 => 0.0 dup2 !9
		do 0.0 dup2 5 5 => 0.0 dup2 =5
		do 0.0 now 4 1 => 0.0 now !9
		do 0.0 now 8 2 => 0.0 now !9
		do 0.0 now 5 2 => 0.0 now !22
		do 0.0 now 5 -1 => 0.0 now !22
		do 0.0 dup2 5 1 => 0.0 dup2 =1
		do 0.0 write 2 01 => 0.0 write !32 died 13
	`)
	play(t, plan(5, "g"), `
		do 0.0 pipe => 0.0 pipe =33
		do 0.0 pipe => 0.0 pipe =67
		do 0.0 close 2 => 0.0 close =0
		do 0.0 dup2 4 7 => 0.0 dup2 =7
		do 0.0 close 4 => 0.0 close =0
		do 0.0 dup2 1 3 => 0.0 dup2 =3
		do 0.0 write 7 01 => 0.0 write !32 died 13
	`)
	x := play(t, plan(5, "g"), `
		do 0.0 pipe => 0.0 pipe =33
		do 0.0 close 1 => 0.0 close =0
		do 0.0 pipe => 0.0 pipe =49
		do 0.0 close 2 => 0.0 close =0
		do 0.0 pipe => 0.0 pipe =66
		do 0.0 write 4 0a => 0.0 write =1
		do 0.0 write 3 0b => 0.0 write =1
		do 0.0 read 2 4 => 0.0 read =1:0a
		do 0.0 read 1 4 => 0.0 read =1:0b
		do 0.0 dup2 3 5 => 0.0 dup2 =5
		do 0.0 dup2 5 3 => 0.0 dup2 =3
		do 0.0 close 3 => 0.0 close =0
		do 0.0 now 1 1 => 0.0 now =0
		do 0.0 read 1 4 => 0.0 read !11
		do 0.0 now 1 0 => 0.0 now =0
		do 0.0 close 5 => 0.0 close =0
		do 0.0 read 1 4 => 0.0 read =0
	`)
	if got := x.u.Procs(0)[0].Fds; got != [8]int{1, 2, 3, 0, 5} {
		t.Error(got)
	}
}

// Promise 23.1: a file may have 64 Refs, which are all descriptors that there are.
func TestRefs(t *testing.T) {
	x := play(t, plan(5, "g"), `
		do 0.0 dup 0 => 0.0 dup =1
		do 0.0 dup 0 => 0.0 dup =2
		do 0.0 dup 0 => 0.0 dup =3
		do 0.0 dup 0 => 0.0 dup =4
		do 0.0 dup 0 => 0.0 dup =5
		do 0.0 dup 0 => 0.0 dup =6
		do 0.0 fork => 0.0 fork =1
		do 0.0 dup 6 => 0.0 dup =7
		do 0.0 fork => 0.0 fork =2
		do 0.0 fork => 0.0 fork =3
		do 0.0 fork => 0.0 fork =4
		do 0.0 fork => 0.0 fork =5
		do 0.0 fork => 0.0 fork =6
		do 0.0 fork => 0.0 fork =7
		do 0.3 dup2 5 2 => 0.3 dup2 =2
		do 0.1 dup 0 => 0.1 dup =7
		do 0.3 dup2 5 2 => 0.3 dup2 !23
		do 0.3 dup2 5 8 => 0.3 dup2 !9
		do 0.3 dup2 5 5 => 0.3 dup2 =5
		do 0.3 dup 5 => 0.3 dup !24
		do 0.3 fork => 0.3 fork !11
		do 0.7 exit 0 => 0.7 exit =0
		do 0.3 dup2 5 2 => 0.3 dup2 =2
		do 0.0 wait => 0.0 wait =1792
		do 0.0 fork => 0.0 fork =7
		do 0.3 dup2 5 2 => 0.3 dup2 !23
	`)
	for i := 7; i > 0; i-- {
		x.plays(fmt.Sprintf("do 0.%d exit 0 => 0.%d exit =0", i, i))
	}
	x.plays("type 0.0 01")
	for fd := range 7 {
		x.plays(fmt.Sprintf("do 0.0 close %d => 0.0 close =0", fd))
	}
	x.plays(`
		do 0.0 read 7 1 => 0.0 read =1:01
		do 0.0 pipe => 0.0 pipe =16
		do 0.0 close 7 => 0.0 close =0
		do 0.0 pipe => 0.0 pipe =50
	`)
	if got := x.u.Procs(0)[0].Fds; got != [8]int{2, 3, 1, 4} {
		t.Error(got)
	}
}

// Promise 23.1: all that a process has open is closed when it ends, by itself or of a signal.
func TestEndsClose(t *testing.T) {
	for _, end := range []string{"do 0.1 exit 0 => 0.1 exit =0", "do 0.1 kill 1 3 => 0.1 kill =0 died 3"} {
		x := play(t, plan(5, "g"), `
			do 0.0 fork => 0.0 fork =1
			do 0.1 pipe => 0.1 pipe =33
			do 0.1 dup2 2 5 => 0.1 dup2 =5
			do 0.1 dup2 1 7 => 0.1 dup2 =7
			do 0.1 fork => 0.1 fork =2
			do 0.2 close 1 => 0.2 close =0
			do 0.2 close 7 => 0.2 close =0
		`)
		x.plays(end)
		x.plays(`
			do 0.2 close 5 => 0.2 close =0
			do 0.2 write 2 01 => 0.2 write !32 died 13
			do 0.0 pipe => 0.0 pipe =33
			do 0.0 read 0 0 => 0.0 read =0
		`)
		if got := x.u.Procs(0); got[0].Fds != [8]int{1, 2, 3} || got[1].Fds != [8]int{} || got[2] != (api.Proc{}) {
			t.Error(end, got)
		}
	}
}

// Promise 23.1: who waits is told of a signal that it does not ignore, whatever it waits for, and has done nothing of its call.
func TestInterrupted(t *testing.T) {
	play(t, plan(5, "gg", link(1, 0)), `
		do 0.0 pipe => 0.0 pipe =50
		do 0.0 sig 6 2 => 0.0 sig =0
		do 0.0 sig 7 1 => 0.0 sig =0
		do 0.0 write 3 000102030405060708090a0b0c0d0e0f101112131415161718191a1b => 0.0 write =28
		do 0.0 fork => 0.0 fork =1
		do 0.0 fork => 0.0 fork =2
		do 0.0 fork => 0.0 fork =3
		do 0.0 fork => 0.0 fork =4
		do 0.4 fork => 0.4 fork =5
		do 0.1 write 3 2021222324
		do 0.2 read 0 3
		do 0.3 read 1 3
		do 0.4 wait
		do 0.0 kill 8 7 => 0.0 kill =0
		do 0.0 kill 8 15 => 0.0 kill =0
		pick 0.1 x3
		pick 0.2 x3
		pick 0.3 x3
		pick 0.4 x3
		do 0.0 kill 8 6 => 0.0 kill =0 caught 6
		pick 0.1 => 0.1 write !4 caught 6
		pick 0.2 => 0.2 read !4 caught 6
		pick 0.3 => 0.3 read !4 caught 6
		pick 0.4 => 0.4 wait !4 caught 6
		pick 0.5 => 0.5 caught 6
		do 0.4 wait
		do 0.0 kill 4 14 => 0.0 kill =0
		pick 0.4 => 0.4 wait !4
		pick 0.4
		do 0.0 kill 4 15 => 0.0 kill =0
		do 0.4 wait
		do 0.0 kill 4 3 => 0.0 kill =0
		pick 0.4 => 0.4 wait !4 died 3
		type 0.0 05
		do 0.0 read 0 3 => 0.0 read =1:05
		do 0.0 read 2 32 => 0.0 read =28:000102030405060708090a0b0c0d0e0f101112131415161718191a1b
	`)
}

// Promise 23.1: who is in, or on the way, is told of a signal when the call is done.
func TestToldLater(t *testing.T) {
	x := play(t, plan(5, "g"), `
		do 0.0 sig 6 2 => 0.0 sig =0
		do 0.0 fork => 0.0 fork =1
		do 0.0 kill 1 6 => 0.0 kill =0
		do 0.1 pid => 0.1 pid =1 caught 6
		0.1 wait
		do 0.0 kill 1 6 => 0.0 kill =0
		pick 0.1
		pick 0.1 => 0.1 wait !10 caught 6
		0.1 read 0 1
		pick 0.1
	`)
	// Nobody else is let in meanwhile, so that time goes on.
	x.plays(`
		tick 5
		do 0.0 kill 1 3 => 0.0 kill =0
		pick 0.1 x3
		pick 0.1 => 0.1 read !4 died 3
		do 0.0 wait => 0.0 wait =387
	`)
}

// Promise 23.1: one at a time is in; who never comes back is passed by, in the section and at the head of the queue, and comes in later.
func TestPassedBy(t *testing.T) {
	x := play(t, plan(5, "gg"), `
		do 0.0 fork => 0.0 fork =1
		do 0.0 fork => 0.0 fork =2
		do 0.0 fork => 0.0 fork =3
		0.0 pid
		0.1 pid
		0.2 pid
		0.3 pid
		pick 0.0
		pick 0.1
		pick 0.2
		pick 0.3
		tick 4
		pick 0.1
		pick 0.2
		pick 0.3
		do 1.0 pid => 1.0 pid =0
		tick 1
		pick 0.3
		pick 0.0
		tick 4
		pick 0.3
		tick 1
		pick 0.3
		pick 0.2
		pick 0.2 => 0.2 pid =2
	`)
	for i, want := range []int{1, 1, 0, 1} {
		if got := x.u.Phase(0, i); got != want {
			t.Error(i, got)
		}
	}
	x.plays(`
		pick 0.1
		pick 0.0
		pick 0.3
		pick 0.1
		pick 0.0
		pick 0.3 => 0.3 pid =3
		pick 0.0
		pick 0.1
		pick 0.0
		pick 0.1 => 0.1 pid =1
		pick 0.0
		pick 0.0 => 0.0 pid =0
	`)
}

// Promise 23.1: who is in and was not passed by stays in, however late it is.
func TestLate(t *testing.T) {
	play(t, plan(5, "g"), `
		0.0 pid
		pick 0.0
		tick 1000
		pick 0.0 => 0.0 pid =0
	`)
}

// Promise 23.1: who is stopped does nothing till it goes on, and may be told what to want meanwhile; one idle wants one thing at a time.
func TestStopped(t *testing.T) {
	x := play(t, plan(5, "g"), `
		do 0.0 fork => 0.0 fork =1
		do 0.0 kill 1 14 => 0.0 kill =0
		do 0.1 pid => 0.1 pid =1
		pick 0.1 x2
		0.1 getgroup
		pick 0.1 x2
		0.1 parent
		do 0.0 pid => 0.0 pid =0
		do 0.0 kill 1 15 => 0.0 kill =0
		0.1 parent
		pick 0.1
		0.1 parent
		pick 0.1 => 0.1 getgroup =0
		pick 0.1
		0.2 parent
		pick 0.2 x3
		do 0.0 fork => 0.0 fork =2
		pick 0.2 x3
		do 0.2 exit 0 => 0.2 exit =0
		0.2 parent
		pick 0.2 x3
		do 0.0 wait => 0.0 wait =512
		0.2 parent
		do 0.0 fork => 0.0 fork =2
		pick 0.2 x3
		do 0.2 parent => 0.2 parent =0
	`)
	if got := x.u.Phase(0, 2); got != api.HIdle {
		t.Error(got)
	}
}

// Promise 23.1: who forks, and dies of a signal then, leaves a child that is nobody's.
func TestForkAndDie(t *testing.T) {
	x := play(t, plan(5, "g"), `
		do 0.0 fork => 0.0 fork =1
		0.1 fork
		do 0.0 kill 1 3 => 0.0 kill =0
		pick 0.1
		pick 0.1 => 0.1 fork =2 died 3
		do 0.2 parent => 0.2 parent =-1
		do 0.0 wait => 0.0 wait =387
	`)
	if got := x.u.Procs(0)[2]; got != (api.Proc{State: 1, Fds: [8]int{1}}) {
		t.Error(got)
	}
}

// Promise 23.1: a call that is none is told so, just as it was asked; there is no return without a call.
func TestNoCall(t *testing.T) {
	x := play(t, plan(5, "gg"), "pick 1.0 x3")
	for _, op := range append([]int{19, -3}, wild...) {
		if op >= 1 && op <= 18 {
			continue
		}
		x.does(call(1, 0, sys(op, 1, 2, 3)))
		x.does(pick(1, 0))
		o, ok := x.does(pick(1, 0))
		if got, want := text(o, ok), text(api.Out{Session: 1, Sys: sys(op, 1, 2, 3), E: 122, Back: true}, true); got != want {
			t.Errorf("%s, want %s", got, want)
		}
	}
	x.plays(`
		pick 1.0 x3
		pick 1.1 x3
	`)
}

// Promise 23.1: of a call it is told how it was asked, whatever that says beside what the call is about.
func TestTold(t *testing.T) {
	x := begin(t, plan(5, "gg"))
	for op := 1; op <= 18; op++ {
		for _, c := range []api.Sys{sys(op, 0, 0), sys(op, 3, 1, 7, 8), sys(op, -1, 99, 1), sys(op, 1<<40, -1<<40, run(1, 40)...)} {
			x.does(call(1, 0, c))
			var o api.Out
			var ok bool
			for range 2 {
				o, ok = x.does(pick(1, 0))
			}
			if fmt.Sprint(o.Sys) != fmt.Sprint(c) && ok || o.Session != 1 && ok {
				t.Error(op, text(o, ok))
			}
			if x.u.Procs(1)[0].State == 0 || !ok {
				x = begin(t, x.p)
			}
		}
	}
}
