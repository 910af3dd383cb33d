package ask

import (
	"parley/api"
	"parley/match"
	"parley/store"
	"parley/tree"
)

// askTest answers what a test found: No, or what it waits for, or neither.
func askTest(s *store.Store, test tree.Item, scope *store.Scope) match.Look {
	left := s.Add(test.Left, scope)
	if test.Sign == "" {
		return askInt(s, left)
	}
	right := s.Add(test.Right, scope)
	switch test.Sign {
	case "==":
		return askSame(s, left, right)
	case "\\=":
		return askOther(s, left, right)
	}
	return askOrder(s, left, test.Sign, right)
}

// askInt is handed the whole int(t).
func askInt(s *store.Store, whole int) match.Look {
	var look match.Look
	for _, arg := range s.Args(whole) {
		label := s.Label(arg)
		look.Await(s, arg)
		look.No = label.Kind == tree.Name
	}
	return look
}

func askSame(s *store.Store, left int, right int) match.Look {
	var look match.Look
	look.Compare(s, left, right)
	return look
}

// askOther turns Yes and No of the comparing round; where something differs, nothing is waited for any more.
func askOther(s *store.Store, left int, right int) match.Look {
	look := askSame(s, left, right)
	switch look.Says() {
	case api.Yes:
		return match.Look{No: true}
	case api.No:
		return match.Look{}
	}
	return look
}

// askOrder waits even where one side is a name, so that it could never say Yes.
func askOrder(s *store.Store, left int, sign string, right int) match.Look {
	var look match.Look
	look.Await(s, left)
	look.Await(s, right)
	if len(look.Waits) > 0 {
		return look
	}
	one := s.Label(left)
	other := s.Label(right)
	numbers := one.Kind == tree.Number && other.Kind == tree.Number
	holds := one.Value < other.Value || sign == "=<" && one.Value == other.Value
	look.No = !numbers || !holds
	return look
}
