/- Units as the laws write them; Remove of a name that is not there. -/
import Derived.Test.YtcfclknfnadgcaaDoorGA4
namespace Go.Proofs.YtcfclknfnadgcaaDoor
open Go.RowKit Go.Shelf Go.Lib
abbrev nilV : Value := .slice none 0 0
def litU (nm : ByteArray) (kd : Int) (wa be : Value) (pl : Bool) (li : ByteArray) : Array Value := #[.string nm, .int .i64 kd, .int .i64 0, wa, .slice none 0 0, .slice none 0 0, .slice none 0 0, .slice none 0 0, .slice none 0 0, be, .bool pl, .int .i64 0, .int .i64 0, .int .i64 0, .slice none 0 0, .slice none 0 0, .slice none 0 0, .int .i64 0, .int .i64 0, .int .i64 0, .int .i64 0, .int .i64 0, .int .i64 0, .bool false, .string li, .string ⟨#[]⟩, .int .i64 0, .int .i64 0, .slice none 0 0, .slice none 0 0, .slice none 0 0, .string ⟨#[]⟩, .string ⟨#[]⟩]
def unU (nm : ByteArray) (kd : Int) (lw lb : List ByteArray) (wa be : Value) (pl : Bool) (li : ByteArray) : Un := ⟨nm, kd, ⟨#[]⟩, pl, fun i => if i = 0 then lw else if i = 6 then lb else [], fun p => ((litU nm kd wa be pl li)[p]?).getD (.bool false)⟩
theorem pos33 {p : Nat} (h1 : p < 33) (h2 : p ∉ posL) : p = 0 ∨ p = 1 ∨ p = 2 ∨ p = 10 ∨ p = 11 ∨ p = 12 ∨ p = 13 ∨ p = 17 ∨ p = 18 ∨ p = 19 ∨ p = 20 ∨ p = 21 ∨ p = 22 ∨ p = 23 ∨ p = 24 ∨ p = 25 ∨ p = 26 ∨ p = 27 ∨ p = 31 ∨ p = 32 := by
  unfold posL at h2
  simp only [List.mem_cons, List.not_mem_nil, or_false, not_or] at h2
  omega
theorem lit_uv (w : World) (nm : ByteArray) (kd : Int) (lw lb : List ByteArray) (wa be : Value) (pl : Bool) (li : ByteArray) (hw : NR w wa lw) (hb : NR w be lb) : UV w (litU nm kd wa be pl li) (unU nm kd lw lb wa be pl li) := by
  have ho : ∀ p, p < 33 → p ∉ posL → ∃ v, (litU nm kd wa be pl li)[p]? = some v ∧ rbk v = none ∧ v.oneCell' = true := fun p h1 h2 => by
    rcases pos33 h1 h2 with rfl | rfl | rfl | rfl | rfl | rfl | rfl | rfl | rfl | rfl | rfl | rfl | rfl | rfl | rfl | rfl | rfl | rfl | rfl | rfl <;> exact ⟨_, rfl, rfl, rfl⟩
  have hl : ∀ (i p : Nat), posL[i]? = some p → ∃ v, (litU nm kd wa be pl li)[p]? = some v ∧ NR w v ((unU nm kd lw lb wa be pl li).ls i) := fun i p hp => by
    have hn0 : NR w (.slice none 0 0) [] := .inl ⟨rfl, none, 0, rfl⟩
    have hi := (posL_lt hp).2
    match i, hi, hp with
    | 0, _, hp => cases hp; exact ⟨wa, rfl, hw⟩
    | 1, _, hp => cases hp; exact ⟨_, rfl, hn0⟩
    | 2, _, hp => cases hp; exact ⟨_, rfl, hn0⟩
    | 3, _, hp => cases hp; exact ⟨_, rfl, hn0⟩
    | 4, _, hp => cases hp; exact ⟨_, rfl, hn0⟩
    | 5, _, hp => cases hp; exact ⟨_, rfl, hn0⟩
    | 6, _, hp => cases hp; exact ⟨be, rfl, hb⟩
    | 7, _, hp => cases hp; exact ⟨_, rfl, hn0⟩
    | 8, _, hp => cases hp; exact ⟨_, rfl, hn0⟩
    | 9, _, hp => cases hp; exact ⟨_, rfl, hn0⟩
    | 10, _, hp => cases hp; exact ⟨_, rfl, hn0⟩
    | 11, _, hp => cases hp; exact ⟨_, rfl, hn0⟩
    | 12, _, hp => cases hp; exact ⟨_, rfl, hn0⟩
  refine ⟨rfl, fun p v hv => ?_, rfl, rfl, rfl, rfl, hl, fun p h1 h2 => ?_⟩
  · have hp : p < 33 := (Array.getElem?_eq_some_iff.1 hv).1
    by_cases hm : p ∈ posL
    · obtain ⟨i, hi⟩ := List.mem_iff_getElem?.1 hm
      obtain ⟨v2, q1, q2⟩ := hl i p hi
      rw [hv] at q1; cases q1
      exact q2.one
    · obtain ⟨v2, q1, _, q3⟩ := ho p hp hm
      rw [hv] at q1; cases q1
      exact q3
  · obtain ⟨v, q1, q2, _⟩ := ho p h1 h2
    have : (unU nm kd lw lb wa be pl li).ot p = v := by show ((litU nm kd wa be pl li)[p]?).getD _ = v; rw [q1]; rfl
    rw [this]
    exact ⟨q1, q2⟩
theorem lit_ubk {nm : ByteArray} {kd : Int} {wa be : Value} {pl : Bool} {li : ByteArray} {b : Nat} (h : ubk (litU nm kd wa be pl li) b) : rbk wa = some b ∨ rbk be = some b := by
  obtain ⟨p, v, h1, h2⟩ := h
  have hp : p < 33 := (Array.getElem?_eq_some_iff.1 h1).1
  match p, hp, h1 with
  | 3, _, h1 => cases h1; exact .inl h2
  | 9, _, h1 => cases h1; exact .inr h2
  | 0, _, h1 => cases h1; cases h2
  | 1, _, h1 => cases h1; cases h2
  | 2, _, h1 => cases h1; cases h2
  | 4, _, h1 => cases h1; cases h2
  | 5, _, h1 => cases h1; cases h2
  | 6, _, h1 => cases h1; cases h2
  | 7, _, h1 => cases h1; cases h2
  | 8, _, h1 => cases h1; cases h2
  | 10, _, h1 => cases h1; cases h2
  | 11, _, h1 => cases h1; cases h2
  | 12, _, h1 => cases h1; cases h2
  | 13, _, h1 => cases h1; cases h2
  | 14, _, h1 => cases h1; cases h2
  | 15, _, h1 => cases h1; cases h2
  | 16, _, h1 => cases h1; cases h2
  | 17, _, h1 => cases h1; cases h2
  | 18, _, h1 => cases h1; cases h2
  | 19, _, h1 => cases h1; cases h2
  | 20, _, h1 => cases h1; cases h2
  | 21, _, h1 => cases h1; cases h2
  | 22, _, h1 => cases h1; cases h2
  | 23, _, h1 => cases h1; cases h2
  | 24, _, h1 => cases h1; cases h2
  | 25, _, h1 => cases h1; cases h2
  | 26, _, h1 => cases h1; cases h2
  | 27, _, h1 => cases h1; cases h2
  | 28, _, h1 => cases h1; cases h2
  | 29, _, h1 => cases h1; cases h2
  | 30, _, h1 => cases h1; cases h2
  | 31, _, h1 => cases h1; cases h2
  | 32, _, h1 => cases h1; cases h2
/-- What counts of a unit is not what else it holds. -/
theorem tol_core (nm : ByteArray) (kd : Int) (lw lb : List ByteArray) (wa be : Value) (pl : Bool) (li : ByteArray) : tolU (unU nm kd lw lb wa be pl li) = tolU (unU nm kd lw lb nilV nilV pl ⟨#[]⟩) := rfl
theorem rel_core (nm : ByteArray) (kd : Int) (lw lb : List ByteArray) (wa be : Value) (pl : Bool) (li : ByteArray) : relsU (unU nm kd lw lb wa be pl li) = relsU (unU nm kd lw lb nilV nilV pl ⟨#[]⟩) := rfl
theorem kL_one (cs : Array Value) (u : Un) (f : Ed) : kL [(cs, u)] f = (cn f (tolU u) : Nat) := by
  unfold kL
  simp
set_option maxRecDepth 100000 in
set_option maxHeartbeats 4000000 in
theorem remove_none (S : GS) (L : UL) (x : ByteArray) (w : World) (h : Gs w S L) (hx : x.size ≤ 1000) (hno : lku L x = none) :
    Calls Tryd.prog 16 #[.pointer (some ⟨S.gb, 0, none⟩), .string x] w fun e w' => e = .returned (.int .i64 150) ∧ Below w.heap.size w w' := by
  have c0 := h.c0
  have hlk := h.un.look lawS (t := 49) Tryd.underlying49 (zeroUn w) (a := x) (keyS hx)
  rw [hno] at hlk
  simp only [Option.map_none, Option.getD_none, Option.isSome_none] at hlk
  obtain ⟨v0, hv0e⟩ : ∃ v0 : Array Value, v0 = zuA := ⟨_, rfl⟩
  rw [← hv0e] at hlk
  have hv0 : v0.size = 33 := by rw [hv0e]; rfl
  have hv1 : ∀ (p : Nat) (v : Value), v0[p]? = some v → v.oneCell' = true := by rw [hv0e]; exact zu_one
  clear h hv0e hno
  obtain ⟨X, hst, _, hbX⟩ := fresh_store (W := w) hv0 hv1 zuA 29 rfl
  have hfin := hidP hbX
  obtain ⟨X0, hX0⟩ : ∃ X0, w.alloc (.cells zuA 29) = X0 := ⟨_, rfl⟩
  rw [hX0] at hst
  unfold zuA at hX0
  clear hv1 hbX
  go_enter Tryd.func16, Tryd.ntmps16
  go_wp2_with (first | rw [hX0] | refine wpList_storeU rfl _ _ rfl _ rfl _ rfl hv0 hst ?_)
  go_ret
  exact ⟨rfl, hfin.out⟩
end Go.Proofs.YtcfclknfnadgcaaDoor
