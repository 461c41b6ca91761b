/- Graphs, plainly: edges, units and what they tell of. -/
import Derived.Test.YtedgnigogkmgkaaGreatDoorNM2
import Derived.Test.YtedgnigogkmgkaaGreatDoorZ0
namespace Go.Proofs.YtedgnigogkmgkaaGreatDoor
/-- An edge: its kind, from, to. -/
abbrev Ed := Int × ByteArray × ByteArray
/-- An edge that can be a key. -/
abbrev okE (e : Ed) : Prop := (-9223372036854775808 ≤ e.1 ∧ e.1 ≤ 9223372036854775807) ∧ e.2.1.size ≤ 1000 ∧ e.2.2.size ≤ 1000
/-- A unit: what counts of it, and its thirteen lists. -/
structure Un where
  nm : ByteArray
  kd : Int
  tg : ByteArray
  pl : Bool
  ls : Nat → List ByteArray
  ot : Nat → Value
/-- Where a unit's lists stand. -/
def posL : List Nat := [3, 4, 5, 6, 7, 8, 9, 14, 15, 16, 28, 29, 30]
def sdn : ByteArray := ⟨#[115, 104, 117, 116, 100, 111, 119, 110, 46, 116, 97, 114, 103, 101, 116]⟩
def isN (s : ByteArray) : Bool := (Nam.cutN s.data.toList).isSome
theorem isN_le {s : ByteArray} (h : isN s = true) : s.size ≤ 60 := by
  unfold isN Nam.cutN at h
  have e : s.data.toList.length = s.size := by rw [Array.length_toList]; rfl
  split at h
  · cases h
  · omega
/-- Relations: the kind, whether it is turned, the names. -/
abbrev Rl := Int × Bool × List ByteArray
/-- A relation in memory: the kind, whether it is turned, its names' slice. -/
structure Rr where
  k : Int
  t : Bool
  p : Option Addr
  n : Nat
  c : Nat
def rels7 (u : Un) : List Rl := [(1, false, u.ls 0), (2, false, u.ls 1), (3, false, u.ls 2), (4, false, u.ls 3), (5, false, u.ls 4), (6, false, u.ls 5), (6, true, u.ls 6)]
def hasTg (k : Int) : Bool := k == 2 || k == 3 || k == 4
def relsT (u : Un) : List Rl := if hasTg u.kd then [(8, false, [u.tg]), (6, true, [u.tg])] else []
def relsD (u : Un) : List Rl := if u.pl then [] else if u.kd = 6 then [(6, false, u.ls 0), (6, false, u.ls 1)] else [(5, false, [sdn]), (6, true, [sdn])]
def relsU (u : Un) : List Rl := rels7 u ++ relsT u ++ relsD u
/-- Whether a name of a relation makes an edge. -/
def okO (n o : ByteArray) : Bool := !decide (o = n) && isN o
def edO (n : ByteArray) (k : Int) (t : Bool) (o : ByteArray) : Ed := if t then (k, o, n) else (k, n, o)
def edR (n : ByteArray) (r : Rl) : List Ed := (r.2.2.filter (okO n)).map (edO n r.1 r.2.1)
def tolU (u : Un) : List Ed := (relsU u).flatMap (edR u.nm)
end Go.Proofs.YtedgnigogkmgkaaGreatDoor
