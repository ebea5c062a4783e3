package tests

import (
	"math/rand"

	"loop.example/s01586/impl"
)

// Drawn scripts: losses, repeats, spoilt packets, crashes with torn writes, walls, ticks and draws, and enough calm and flow among them that servers lead and commands are agreed.

func drawClusterSetup(random *rand.Rand) impl.Setup {
	su := impl.Setup{Servers: sizes[random.Intn(2)], Clients: 1 + random.Intn(4), Elect: 2 + random.Intn(12), Retry: 1 + random.Intn(12), Disk: impl.MaxDisk}
	if oneIn(random, 6) {
		su.Servers = 7
	}
	su.Beat = 1 + random.Intn(su.Elect)
	if oneIn(random, 2) {
		su.Beat = 1 + su.Elect/4
	}
	if oneIn(random, 5) {
		su.Disk = random.Intn(1500)
	}
	return su
}

// drawTimed: a well-timed setup of 3 or 5 servers.
func drawTimed(random *rand.Rand) impl.Setup {
	su := impl.Setup{Servers: sizes[random.Intn(2)], Clients: 1 + random.Intn(4), Retry: 1 + random.Intn(40), Disk: impl.MaxDisk}
	su.Elect = 8*su.Servers + random.Intn(12)
	if oneIn(random, 3) {
		su.Elect = 8 * su.Servers
	}
	su.Beat = 1 + random.Intn(su.Elect/4)
	return su
}

// drawWord: a text that a script can tell, of few different ones.
func drawWord(random *rand.Rand) string {
	return string(rune('a' + random.Intn(3)))
}

func drawAsk(random *rand.Rand) impl.Cmd {
	switch random.Intn(4) {
	case 0:
		return getOf(0, 0, drawWord(random))
	case 1:
		return delOf(0, 0, drawWord(random))
	case 2:
		return casOf(0, 0, drawWord(random), drawWord(random), drawWord(random))
	}
	return putOf(0, 0, drawWord(random), drawWord(random))
}

// drawRough: a step without calm.
func drawRough(random *rand.Rand, su impl.Setup) impl.Step {
	server := 1 + random.Intn(su.Servers)
	pick := random.Intn(12)
	switch n := random.Intn(100); {
	case n < 22:
		return stTick(server, 1+random.Intn(2*su.Elect))
	case n < 42:
		return stFlow(1 + random.Intn(30))
	case n < 50:
		return stDeliver(pick)
	case n < 56:
		return stRepeat(pick)
	case n < 60:
		return stDrop(pick)
	case n < 64:
		return stSpoil(pick, random.Intn(200), random.Intn(255))
	case n < 67:
		return stCrash(server)
	case n < 71:
		return stTear(server, random.Intn(80))
	case n < 77:
		return stStart(server)
	case n < 80:
		return stWall(server)
	case n < 85:
		return stOpen(server)
	case n < 96:
		return stAsk(1+random.Intn(su.Clients), drawAsk(random))
	}
	return stPoke(1 + random.Intn(su.Clients))
}

func drawRoughs(random *rand.Rand, su impl.Setup, count int) []impl.Step {
	var steps []impl.Step
	for range count {
		steps = append(steps, drawRough(random, su))
	}
	return steps
}

func drawUsableDraws(random *rand.Rand) []int {
	var out []int
	for range random.Intn(40) {
		out = append(out, random.Intn(3000))
	}
	return out
}

// drawScript: rough steps with some calm rounds among them.
func drawScript(random *rand.Rand) impl.Script {
	su := drawClusterSetup(random)
	if oneIn(random, 4) {
		su = drawTimed(random)
	}
	steps := drawRoughs(random, su, 20+random.Intn(180))
	for i := range steps {
		if oneIn(random, 15) {
			steps[i] = stCalm(1 + random.Intn(3*su.Elect))
		}
	}
	return scriptOf(su, drawUsableDraws(random), steps...)
}
