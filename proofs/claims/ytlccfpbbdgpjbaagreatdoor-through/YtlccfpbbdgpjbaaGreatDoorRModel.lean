/-
  The document's answer as plain functions on lists and numbers.
-/
import Derived.Test.YtlccfpbbdgpjbaaGreatDoorRMem
namespace Go.Proofs.YtlccfpbbdgpjbaaGreatDoor

structure Cfg where
  deposit : Int
  cost : Int
  cap : Int
  window : Int
  attempts : Int
  flight : Int
  base : Int
  most : Int
  rank : Int
  samples : Int
structure RCall where
  number : Int
  deadline : Int
  had : Int
  wait : Int
  safe : Bool
structure RAtt where
  number : Int
  call : Int
  at_ : Int
structure RTimer where
  call : Int
  kind : Int
  due : Int
structure RUnits where
  at_ : Int
  n : Int
structure RAct where
  kind : Int
  call : Int
  attempt : Int
  outcome : Int
  value : Int
  left : Int

def encCall (c : RCall) : List Value := [.int .i64 c.number, .int .i64 c.deadline, .int .i64 c.had, .int .i64 c.wait, .bool c.safe]
def encAtt (a : RAtt) : List Value := [.int .i64 a.number, .int .i64 a.call, .int .i64 a.at_]
def encTimer (t : RTimer) : List Value := [.int .i64 t.call, .int .i64 t.kind, .int .i64 t.due]
def encUnits (u : RUnits) : List Value := [.int .i64 u.at_, .int .i64 u.n]
def encAct (a : RAct) : List Value := [.int .i64 a.kind, .int .i64 a.call, .int .i64 a.attempt, .int .i64 a.outcome, .int .i64 a.value, .int .i64 a.left]
def encInt (n : Int) : List Value := [.int .i64 n]
theorem encCall_len (c : RCall) : (encCall c).length = 5 := rfl
theorem encAtt_len (c : RAtt) : (encAtt c).length = 3 := rfl
theorem encTimer_len (c : RTimer) : (encTimer c).length = 3 := rfl
theorem encUnits_len (c : RUnits) : (encUnits c).length = 2 := rfl
theorem encAct_len (c : RAct) : (encAct c).length = 6 := rfl
theorem encInt_len (c : Int) : (encInt c).length = 1 := rfl

/-- Where a call stands, counted from k on; -1: it is not open. -/
def findFrom (number : Int) : List RCall → Nat → Int
  | [], _ => -1
  | c :: r, k => if c.number = number then (k : Int) else findFrom number r (k + 1)
def findI (calls : List RCall) (number : Int) : Int := findFrom number calls 0

theorem findFrom_drop (number : Int) (l : List RCall) (k : Nat) (h : k < l.length) : findFrom number (l.drop k) k = if l[k].number = number then (k : Int) else findFrom number (l.drop (k + 1)) (k + 1) := by
  rw [List.drop_eq_getElem_cons h]
  rfl

def keepTimer (call from_ to : Int) (t : RTimer) : Bool := t.call != call || decide (t.kind < from_) || decide (to < t.kind)
def keepAtt (number : Int) (a : RAtt) : Bool := a.number != number
def keepUnits (now window : Int) (u : RUnits) : Bool := decide (now - u.at_ < window)
def sumUnits (l : List RUnits) : Int := (l.map (·.n)).foldl (· + ·) 0

end Go.Proofs.YtlccfpbbdgpjbaaGreatDoor
