package vec

import "doorkeeper/api"

// Add is the sum of all of l.
func Add(l ...api.Vec) api.Vec {
	var sum api.Vec
	for _, v := range l {
		sum = api.Vec{Cpu: sum.Cpu + v.Cpu, Mem: sum.Mem + v.Mem, Pods: sum.Pods + v.Pods}
	}
	return sum
}

// Sub is what is left of a without b.
func Sub(a, b api.Vec) api.Vec {
	return api.Vec{Cpu: a.Cpu - b.Cpu, Mem: a.Mem - b.Mem, Pods: a.Pods - b.Pods}
}

// Max has of each resource the most that one of l has: it may be none of them.
func Max(l ...api.Vec) api.Vec {
	if len(l) == 0 {
		return api.Vec{}
	}
	most := l[0]
	for _, v := range l[1:] {
		most = api.Vec{Cpu: max(most.Cpu, v.Cpu), Mem: max(most.Mem, v.Mem), Pods: max(most.Pods, v.Pods)}
	}
	return most
}
