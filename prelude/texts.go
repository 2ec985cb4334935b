package prelude

// What operations have left is gone on with one behind the other, not within one another, so that no calls wait, however many operations are done:
// what is to be known then is handed on as an argument. Lists are gathered with the last one first, and turned round at the end.
// A loop has a def around it, by which it is asked for: all arrows of a recursive def have one row, so that to give it no more than a number would be taken for doing all that f does.

const state = `op once get : unit => int
op once put : int => unit
def state n f = (handle f () with {
  return x => fn s => (x, s)
| get u k => fn s => k s s
| put m k => fn s => k () m
}) n
`

const reverse = `def rec p_reverse l r = case l of [] => r | x :: m => p_reverse m (x :: r) end
`

// Where a flip is true first, what it has left waits in a list, to be gone on with by false later.
const choose = `op many flip : unit => bool
` + reverse + `def rec p_all f later l = shallow f () with {
  return x => case later of
    [] => p_reverse (x :: l) []
  | k :: r => p_all (fn u => k false) r (x :: l) end
| flip u k => p_all (fn v => k true) (k :: later) l
}
def all f = p_all f [] []
def rec p_first f later l = shallow f () with {
  return x => if x then p_reverse l [] else case later of
    [] => []
  | p :: r => p_first (fn u => (fst p) false) r (false :: snd p) end
| flip u k => p_first (fn v => k true) ((k, l) :: later) (true :: l)
}
def first f = p_first f [] []
`

const gen = `op many emit : int => unit
` + reverse + `def rec p_emitted f l = shallow f () with {
  return x => p_reverse l []
| emit n k => p_emitted k (n :: l)
}
def emitted f = p_emitted f []
def rec p_take i f l = if i < 1 then p_reverse l [] else shallow f () with {
  return x => p_reverse l []
| emit n k => p_take (i - 1) k (n :: l)
}
def take i f = p_take i f []
`

// The queue is two lists, of which the second one has its last thread first: so a thread is put to the end at once.
const sched = `op many fork : (unit -{fork, say, yield}-> unit) => unit
op many yield : unit => unit
op many say : int => unit
` + reverse + `def rec p_run queue behind l = case queue of
  [] => case behind of [] => p_reverse l [] | f :: r => p_run (p_reverse behind []) [] l end
| f :: r => shallow f () with {
    return x => p_run r behind l
  | fork g k => p_run (k :: r) (g :: behind) l
  | yield u k => p_run r (k :: behind) l
  | say n k => p_run (k :: r) behind (n :: l)
  } end
def run f = p_run [f] [] []
`

// The sum says that catch is asked for numbers.
const catch = `op many fail : int => int
def catch f = handle f () with { return x => [x + 0] | fail n k => [] }
def retry n f = (handle f () with {
  return x => fn i => x
| fail m k => fn i => if i < 1 then m else k (m + 1) (i - 1)
}) n
`
