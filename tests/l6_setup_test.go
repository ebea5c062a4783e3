package tests

import (
	"testing"

	"loop.example/s01586/impl"
)

func TestSetupFault(t *testing.T) {
	good := impl.Setup{Servers: 5, Clients: 3, Elect: 10, Beat: 4, Retry: 7, Disk: 500}
	want := func(su impl.Setup, fault int) {
		t.Helper()
		if got := impl.SetupFault(su); got != fault {
			t.Errorf("%+v: %d, not %d", su, got, fault)
		}
	}
	want(good, 0)
	numbers := append([]int{3, 4, 5, 9, 10, 11, 1000, 1001, impl.MaxDisk, impl.MaxDisk + 1, -3, -5}, edges...)
	for _, n := range numbers {
		su := good
		su.Servers = n
		want(su, ruleIf(n != 3 && n != 5 && n != 7, 1))
		su = good
		su.Clients = n
		want(su, ruleIf(n < 1 || n > 8, 2))
		su = good
		su.Elect, su.Beat = n, 1
		want(su, ruleIf(n < 2 || n > 1000, 3))
		su = good
		su.Beat = n
		want(su, ruleIf(n < 1 || n > 10, 4))
		su = good
		su.Retry = n
		want(su, ruleIf(n < 1 || n > 1000, 5))
		su = good
		su.Disk = n
		want(su, ruleIf(n < 0 || n > impl.MaxDisk, 6))
	}
	want(impl.Setup{Servers: 3, Clients: 1, Elect: 2, Beat: 2, Retry: 1, Disk: 0}, 0)
	want(impl.Setup{Servers: 7, Clients: 8, Elect: 1000, Beat: 1000, Retry: 1000, Disk: impl.MaxDisk}, 0)
	want(impl.Setup{}, 1)
}

func TestSetupFaultOrder(t *testing.T) {
	good := impl.Setup{Servers: 3, Clients: 1, Elect: 10, Beat: 1, Retry: 1, Disk: 0}
	breaks := []func(*impl.Setup){
		func(su *impl.Setup) { su.Servers = 4 },
		func(su *impl.Setup) { su.Clients = 0 },
		func(su *impl.Setup) { su.Elect = 1 },
		func(su *impl.Setup) { su.Beat = 1001 },
		func(su *impl.Setup) { su.Retry = 0 },
		func(su *impl.Setup) { su.Disk = -1 },
	}
	for set := 1; set < 1<<len(breaks); set++ {
		su := breakAll(good, breaks, set)
		if got := impl.SetupFault(su); got != firstOf(set) {
			t.Errorf("%+v: %d, not %d", su, got, firstOf(set))
		}
		if got := impl.RunServer(su, 1, nil, nil); !sameTrace(got, impl.ServerTrace{Code: 1}) {
			t.Errorf("%+v: %s", su, told(got))
		}
	}
}
