import Derived.Test.YtcfclknfnadgcaaDoorBxb
/- Units as the laws write them; Remove of a name that is not there. -/
namespace Go.Proofs.YtcfclknfnadgcaaDoor
open Go.RowKit Go.Shelf Go.Lib
abbrev nilV : Value := .slice none 0 0
def litU (nm : ByteArray) (kd : Int) (wa be : Value) (pl : Bool) (li : ByteArray) : Array Value := #[.string nm, .int .i64 kd, .int .i64 0, wa, .slice none 0 0, .slice none 0 0, .slice none 0 0, .slice none 0 0, .slice none 0 0, be, .bool pl, .int .i64 0, .int .i64 0, .int .i64 0, .slice none 0 0, .slice none 0 0, .slice none 0 0, .int .i64 0, .int .i64 0, .int .i64 0, .int .i64 0, .int .i64 0, .int .i64 0, .bool false, .string li, .string ⟨#[]⟩, .int .i64 0, .int .i64 0, .slice none 0 0, .slice none 0 0, .slice none 0 0, .string ⟨#[]⟩, .string ⟨#[]⟩]
def unU (nm : ByteArray) (kd : Int) (lw lb : List ByteArray) (wa be : Value) (pl : Bool) (li : ByteArray) : Un := ⟨nm, kd, ⟨#[]⟩, pl, fun i => if i = 0 then lw else if i = 6 then lb else [], fun p => ((litU nm kd wa be pl li)[p]?).getD (.bool false)⟩
theorem pos33 {p : Nat} (h1 : p < 33) (h2 : p ∉ posL) : p = 0 ∨ p = 1 ∨ p = 2 ∨ p = 10 ∨ p = 11 ∨ p = 12 ∨ p = 13 ∨ p = 17 ∨ p = 18 ∨ p = 19 ∨ p = 20 ∨ p = 21 ∨ p = 22 ∨ p = 23 ∨ p = 24 ∨ p = 25 ∨ p = 26 ∨ p = 27 ∨ p = 31 ∨ p = 32 := by
  unfold posL at h2
  simp only [List.mem_cons, List.not_mem_nil, or_false, not_or] at h2
  omega
theorem lit_uv (w : World) (nm : ByteArray) (kd : Int) (lw lb : List ByteArray) (wa be : Value) (pl : Bool) (li : ByteArray) (hw : NR w wa lw) (hb : NR w be lb) : UV w (litU nm kd wa be pl li) (unU nm kd lw lb wa be pl li) := by
  have ho : ∀ p, p < 33 → p ∉ posL → ∃ v, (litU nm kd wa be pl li)[p]? = some v ∧ rbk v = none ∧ v.oneCell' = true := fun p h1 h2 => by
    rcases pos33 h1 h2 with rfl | rfl | rfl | rfl | rfl | rfl | rfl | rfl | rfl | rfl | rfl | rfl | rfl | rfl | rfl | rfl | rfl | rfl | rfl | rfl <;> exact ⟨_, rfl, rfl, rfl⟩
  have hl : ∀ (i p : Nat), posL[i]? = some p → ∃ v, (litU nm kd wa be pl li)[p]? = some v ∧ NR w v ((unU nm kd lw lb wa be pl li).ls i) := fun i p hp => by
    have hn0 : NR w (.slice none 0 0) [] := .inl ⟨rfl, none, 0, rfl⟩
    have hi := (posL_lt hp).2
    match i, hi, hp with
    | 0, _, hp => cases hp; exact ⟨wa, rfl, hw⟩
    | 1, _, hp => cases hp; exact ⟨_, rfl, hn0⟩
    | 2, _, hp => cases hp; exact ⟨_, rfl, hn0⟩
    | 3, _, hp => cases hp; exact ⟨_, rfl, hn0⟩
    | 4, _, hp => cases hp; exact ⟨_, rfl, hn0⟩
    | 5, _, hp => cases hp; exact ⟨_, rfl, hn0⟩
    | 6, _, hp => cases hp; exact ⟨be, rfl, hb⟩
    | 7, _, hp => cases hp; exact ⟨_, rfl, hn0⟩
    | 8, _, hp => cases hp; exact ⟨_, rfl, hn0⟩
    | 9, _, hp => cases hp; exact ⟨_, rfl, hn0⟩
    | 10, _, hp => cases hp; exact ⟨_, rfl, hn0⟩
    | 11, _, hp => cases hp; exact ⟨_, rfl, hn0⟩
    | 12, _, hp => cases hp; exact ⟨_, rfl, hn0⟩
  refine ⟨rfl, fun p v hv => ?_, rfl, rfl, rfl, rfl, hl, fun p h1 h2 => ?_⟩
  · have hp : p < 33 := (Array.getElem?_eq_some_iff.1 hv).1
    by_cases hm : p ∈ posL
    · obtain ⟨i, hi⟩ := List.mem_iff_getElem?.1 hm
      obtain ⟨v2, q1, q2⟩ := hl i p hi
      rw [hv] at q1; cases q1
      exact q2.one
    · obtain ⟨v2, q1, _, q3⟩ := ho p hp hm
      rw [hv] at q1; cases q1
      exact q3
  · obtain ⟨v, q1, q2, _⟩ := ho p h1 h2
    have : (unU nm kd lw lb wa be pl li).ot p = v := by show ((litU nm kd wa be pl li)[p]?).getD _ = v; rw [q1]; rfl
    rw [this]
    exact ⟨q1, q2⟩
theorem lit_ubk {nm : ByteArray} {kd : Int} {wa be : Value} {pl : Bool} {li : ByteArray} {b : Nat} (h : ubk (litU nm kd wa be pl li) b) : rbk wa = some b ∨ rbk be = some b := by
  obtain ⟨p, v, h1, h2⟩ := h
  have hp : p < 33 := (Array.getElem?_eq_some_iff.1 h1).1
  match p, hp, h1 with
  | 3, _, h1 => cases h1; exact .inl h2
  | 9, _, h1 => cases h1; exact .inr h2
  | 0, _, h1 => cases h1; cases h2
  | 1, _, h1 => cases h1; cases h2
  | 2, _, h1 => cases h1; cases h2
  | 4, _, h1 => cases h1; cases h2
  | 5, _, h1 => cases h1; cases h2
  | 6, _, h1 => cases h1; cases h2
  | 7, _, h1 => cases h1; cases h2
  | 8, _, h1 => cases h1; cases h2
  | 10, _, h1 => cases h1; cases h2
  | 11, _, h1 => cases h1; cases h2
  | 12, _, h1 => cases h1; cases h2
  | 13, _, h1 => cases h1; cases h2
  | 14, _, h1 => cases h1; cases h2
  | 15, _, h1 => cases h1; cases h2
  | 16, _, h1 => cases h1; cases h2
  | 17, _, h1 => cases h1; cases h2
  | 18, _, h1 => cases h1; cases h2
  | 19, _, h1 => cases h1; cases h2
  | 20, _, h1 => cases h1; cases h2
  | 21, _, h1 => cases h1; cases h2
  | 22, _, h1 => cases h1; cases h2
  | 23, _, h1 => cases h1; cases h2
  | 24, _, h1 => cases h1; cases h2
  | 25, _, h1 => cases h1; cases h2
  | 26, _, h1 => cases h1; cases h2
  | 27, _, h1 => cases h1; cases h2
  | 28, _, h1 => cases h1; cases h2
  | 29, _, h1 => cases h1; cases h2
  | 30, _, h1 => cases h1; cases h2
  | 31, _, h1 => cases h1; cases h2
  | 32, _, h1 => cases h1; cases h2
/-- What counts of a unit is not what else it holds. -/
theorem tol_core (nm : ByteArray) (kd : Int) (lw lb : List ByteArray) (wa be : Value) (pl : Bool) (li : ByteArray) : tolU (unU nm kd lw lb wa be pl li) = tolU (unU nm kd lw lb nilV nilV pl ⟨#[]⟩) := rfl
theorem rel_core (nm : ByteArray) (kd : Int) (lw lb : List ByteArray) (wa be : Value) (pl : Bool) (li : ByteArray) : relsU (unU nm kd lw lb wa be pl li) = relsU (unU nm kd lw lb nilV nilV pl ⟨#[]⟩) := rfl
theorem kL_one (cs : Array Value) (u : Un) (f : Ed) : kL [(cs, u)] f = (cn f (tolU u) : Nat) := by
  unfold kL
  simp
set_option maxRecDepth 100000 in
set_option maxHeartbeats 4000000 in
theorem remove_none (S : GS) (L : UL) (x : ByteArray) (w : World) (h : Gs w S L) (hx : x.size ≤ 1000) (hno : lku L x = none) :
    Calls Tryd.prog 16 #[.pointer (some ⟨S.gb, 0, none⟩), .string x] w fun e w' => e = .returned (.int .i64 150) ∧ Below w.heap.size w w' := by
  have c0 := h.c0
  have hlk := h.un.look lawS (t := 49) Tryd.underlying49 (zeroUn w) (a := x) (keyS hx)
  rw [hno] at hlk
  simp only [Option.map_none, Option.getD_none, Option.isSome_none] at hlk
  obtain ⟨v0, hv0e⟩ : ∃ v0 : Array Value, v0 = zuA := ⟨_, rfl⟩
  rw [← hv0e] at hlk
  have hv0 : v0.size = 33 := by rw [hv0e]; rfl
  have hv1 : ∀ (p : Nat) (v : Value), v0[p]? = some v → v.oneCell' = true := by rw [hv0e]; exact zu_one
  clear h hv0e hno
  obtain ⟨X, hst, _, hbX⟩ := fresh_store (W := w) hv0 hv1 zuA 29 rfl
  have hfin := hidP hbX
  obtain ⟨X0, hX0⟩ : ∃ X0, w.alloc (.cells zuA 29) = X0 := ⟨_, rfl⟩
  rw [hX0] at hst
  unfold zuA at hX0
  clear hv1 hbX
  go_enter Tryd.func16, Tryd.ntmps16
  go_wp2_with (first | rw [hX0] | refine wpList_storeU rfl _ _ rfl _ rfl _ rfl hv0 hst ?_)
  go_ret
  exact ⟨rfl, hfin.out⟩
end Go.Proofs.YtcfclknfnadgcaaDoor
/- The contract of the laws' known. -/
namespace Go.Proofs.YtcfclknfnadgcaaDoor
open Go.RowKit Go.Shelf Go.Lib
def aSv : ByteArray := ⟨#[97, 46, 115, 101, 114, 118, 105, 99, 101]⟩
def bSv : ByteArray := ⟨#[98, 46, 115, 101, 114, 118, 105, 99, 101]⟩
theorem known_any (w : World) (hg : GlN w) : Calls Tryd.prog 6 #[] w fun e w' => e = .returned (.bool true) ∧ Below w.heap.size w w' := by
  have hnew := new_any w
  have hgl := hidP hg
  clear hg
  go_enter Tryd.func6, Tryd.ntmps6
  go_wp2_with fail
  refine hnew.mono ?_
  rintro e w1 ⟨S, rfl, hG, hge, hS0, hb1⟩
  have heq : ∀ w, (binOp .eql 25 (.pointer (some ⟨S.gb, 0, none⟩)) (.pointer none)).run Tryd.prog w = .ok (.bool false) w := fun w => by first | kernel_rfl | rfl
  obtain ⟨B, hB⟩ : ∃ B, w1.heap.size = B := ⟨_, rfl⟩
  obtain ⟨W2, hW2⟩ : ∃ W2, w1.alloc (.cells #[.string ⟨#[98, 46, 115, 101, 114, 118, 105, 99, 101]⟩] 9) = W2 := ⟨_, rfl⟩
  have b2 : Below w1.heap.size w1 W2 := by rw [← hW2]; exact (Below.refl _ _).alloc (Nat.le_refl _) _
  have cb : W2.cell? ⟨B, 0, none⟩ = some (.string bSv) := by rw [← hW2]; exact cell_at hB rfl
  have hG2 := hG.below b2
  have glt := hgl.out.lt
  have hu := lit_uv W2 aSv 1 [] [bSv] nilV (.slice (some ⟨B, 0, none⟩) 1 1) true ⟨#[]⟩ (.inl ⟨rfl, none, 0, rfl⟩) (NR.one1 cb)
  have hadd := add_new S [] _ _ W2 hG2 hu (show isN aSv = true by decide +kernel) rfl (by decide) (by rw [rel_core]; decide +kernel) (by rw [tol_core, hS0]; decide +kernel) ((hgl.out.below hb1).below b2) (fun q => by have := hge _ q; omega) (fun q => by have := hge _ q; omega) (fun b hb q => by
    have := hG.lt q
    rcases lit_ubk hb with r | r
    · cases r
    · simp [rbk] at r; omega)
  have bH := hidP (hb1.trans (b2.mono (by have := hb1.size; exact this)))
  have hgeH := hidP hge
  clear hnew hG hge hS0 hb1 b2 cb hG2 hu
  go_wp2_with (rw [hW2])
  refine hadd.mono ?_
  rintro e w3 ⟨rfl, S', cs, hG3, hgo, _⟩
  have hh1 := has_any S' _ w3 hG3 6 bSv aSv (by unfold okE; decide)
  have hh2 := has_any S' _ w3 hG3 6 aSv bSv (by unfold okE; decide)
  have hrm := remove_none S' _ bSv w3 hG3 (by decide) (by rw [lku_cons]; exact (if_neg (show ¬ aSv = bSv by decide)).trans rfl)
  have k1 : decide (0 < kL [(cs, unU aSv 1 [] [bSv] nilV (.slice (some ⟨B, 0, none⟩) 1 1) true ⟨#[]⟩)] (6, bSv, aSv)) = true := by rw [kL_one, tol_core]; decide +kernel
  have k2 : decide (0 < kL [(cs, unU aSv 1 [] [bSv] nilV (.slice (some ⟨B, 0, none⟩) 1 1) true ⟨#[]⟩)] (6, aSv, bSv)) = false := by rw [kL_one, tol_core]; decide +kernel
  rw [k1] at hh1
  rw [k2] at hh2
  rw [hgo.gb] at hh1 hh2 hrm
  have fH : Hid (Below w.heap.size w w3) := bH.out.trans (hgo.mv.toBelow (by have := bH.out.size; exact this) (fun k hk q => by have := hgeH.out k q; omega))
  clear hG3 hgo k1 k2 hadd
  go_wp2_with fail
  refine hh1.mono ?_
  rintro e w4 ⟨rfl, hw4⟩
  replace hw4 := hw4.symm
  subst hw4
  go_wp2_with fail
  refine hh2.mono ?_
  rintro e w4 ⟨rfl, hw4⟩
  replace hw4 := hw4.symm
  subst hw4
  go_wp2_with fail
  refine hrm.mono ?_
  rintro e w4 ⟨rfl, hb4⟩
  have fin : Hid (Below w.heap.size w w4) := fH.out.trans (hb4.mono fH.out.size)
  clear hb4 hh1 hh2 hrm
  go_wp2_with fail
  go_ret
  exact ⟨rfl, fin.out⟩
end Go.Proofs.YtcfclknfnadgcaaDoor
