import Derived.Test.YtedgnigogkmgkaaGreatDoorBad
import Derived.Test.YtedgnigogkmgkaaGreatDoorPM
import Derived.Test.YtedgnigogkmgkaaGreatDoorGP
import Derived.Laws.Cover1
import Derived.Sort.Walk0
import Derived.Sort.LotA
import Derived.Shelf.SlSortCmp.WholeK
import Derived.Test.YtedgnigogkmgkaaGreatDoorRZ2
import Derived.Test.YtedgnigogkmgkaaGreatDoorBaf
import Derived.Test.YtedgnigogkmgkaaGreatDoorShelfQ
/- cmp at int and string; the order of edges. -/
namespace Go.Proofs.YtedgnigogkmgkaaGreatDoor
open Go.RowKit Go.Shelf Go.Lib
attribute [local go_sem] Oper.semAt_some
/-- What Compare tells. -/
def sg (a b : Int) : Int := if a < b then -1 else if b < a then 1 else 0
def sgS (a b : ByteArray) : Int := if Op.bytesLess a.toList b.toList = true then -1 else if (a.toList == b.toList) = true then 0 else 1
/-- The first that isn't 0. -/
def fz : List Int → Int
  | [] => 0
  | x :: l => if x = 0 then fz l else x
set_option maxRecDepth 100000 in
set_option maxHeartbeats 1000000 in
theorem nanI (x : Int) (w : World) : Calls Tryz.prog 130 #[.int .i64 x] w fun e w' => e = .returned (.bool false) ∧ w' = w := by
  go_enter Tryz.func130, Tryz.ntmps130
  go_wp2_with fail
  go_ret
  exact ⟨rfl, rfl⟩
set_option maxRecDepth 100000 in
set_option maxHeartbeats 1000000 in
theorem nanS (x : ByteArray) (w : World) : Calls Tryz.prog 209 #[.string x] w fun e w' => e = .returned (.bool false) ∧ w' = w := by
  go_enter Tryz.func209, Tryz.ntmps209
  go_wp2_with fail
  go_ret
  exact ⟨rfl, rfl⟩
set_option maxRecDepth 100000 in
set_option maxHeartbeats 2000000 in
theorem cmpI (a b : Int) (w : World) : Calls Tryz.prog 92 #[.int .i64 a, .int .i64 b] w fun e w' => e = .returned (.int .i64 (sg a b)) ∧ w' = w := by
  have h1 := nanI a w
  have h2 := nanI b w
  have fin : Hid (∀ r, sg a b = r → Ending.returned (.int .i64 r) = .returned (.int .i64 (sg a b))) := fun r e => by rw [e]
  by_cases l1 : a < b
  · have e : Hid (sg a b = -1) := by show _ = _; unfold sg; rw [if_pos l1]
    go_enter Tryz.func92, Tryz.ntmps92
    go_wp2_with fail
    refine h1.mono ?_
    rintro e1 w1 ⟨rfl, rfl⟩
    go_wp2_with fail
    refine h2.mono ?_
    rintro e1 w1 ⟨rfl, rfl⟩
    go_wp2_with fail
    go_ret
    exact ⟨fin.out _ e.out, rfl⟩
  · by_cases l2 : b < a
    · have e : Hid (sg a b = 1) := by show _ = _; unfold sg; rw [if_neg l1, if_pos l2]
      have l3 : decide (a < b) = false := decide_eq_false l1
      have l4 : ¬ a < b := l1
      go_enter Tryz.func92, Tryz.ntmps92
      go_wp2_with fail
      refine h1.mono ?_
      rintro e1 w1 ⟨rfl, rfl⟩
      go_wp2_with fail
      refine h2.mono ?_
      rintro e1 w1 ⟨rfl, rfl⟩
      go_wp2_with fail
      go_ret
      exact ⟨fin.out _ e.out, rfl⟩
    · have e : Hid (sg a b = 0) := by show _ = _; unfold sg; rw [if_neg l1, if_neg l2]
      obtain rfl : a = b := by omega
      go_enter Tryz.func92, Tryz.ntmps92
      go_wp2_with fail
      refine h1.mono ?_
      rintro e1 w1 ⟨rfl, rfl⟩
      go_wp2_with fail
      refine h2.mono ?_
      rintro e1 w1 ⟨rfl, rfl⟩
      go_wp2_with fail
      go_ret
      exact ⟨fin.out _ e.out, rfl⟩
set_option maxRecDepth 100000 in
set_option maxHeartbeats 2000000 in
theorem cmpS (a b : ByteArray) (w : World) : Calls Tryz.prog 219 #[.string a, .string b] w fun e w' => e = .returned (.int .i64 (sgS a b)) ∧ w' = w := by
  have h1 := nanS a w
  have h2 := nanS b w
  have fin : Hid (∀ r, sgS a b = r → Ending.returned (.int .i64 r) = .returned (.int .i64 (sgS a b))) := fun r e => by rw [e]
  cases l1 : Op.bytesLess a.toList b.toList with
  | true =>
    have e : Hid (sgS a b = -1) := by show _ = _; unfold sgS; rw [if_pos l1]
    go_enter Tryz.func219, Tryz.ntmps219
    go_wp2_with fail
    refine h1.mono ?_
    rintro e1 w1 ⟨rfl, rfl⟩
    go_wp2_with fail
    refine h2.mono ?_
    rintro e1 w1 ⟨rfl, rfl⟩
    go_wp2_with fail
    go_ret
    exact ⟨fin.out _ e.out, rfl⟩
  | false =>
    cases l2 : a.toList == b.toList with
    | false =>
      have e : Hid (sgS a b = 1) := by show _ = _; unfold sgS; rw [l1, l2, if_neg (by decide), if_neg (by decide)]
      go_enter Tryz.func219, Tryz.ntmps219
      go_wp2_with fail
      refine h1.mono ?_
      rintro e1 w1 ⟨rfl, rfl⟩
      go_wp2_with fail
      refine h2.mono ?_
      rintro e1 w1 ⟨rfl, rfl⟩
      go_wp2_with fail
      go_ret
      exact ⟨fin.out _ e.out, rfl⟩
    | true =>
      have e : Hid (sgS a b = 0) := by show _ = _; unfold sgS; rw [l1, if_neg (by decide), if_pos l2]
      go_enter Tryz.func219, Tryz.ntmps219
      go_wp2_with fail
      refine h1.mono ?_
      rintro e1 w1 ⟨rfl, rfl⟩
      go_wp2_with fail
      refine h2.mono ?_
      rintro e1 w1 ⟨rfl, rfl⟩
      go_wp2_with fail
      go_ret
      exact ⟨fin.out _ e.out, rfl⟩
theorem fz_drop {xs : List Int} {k : Nat} {x : Int} (h : xs[k]? = some x) : fz (xs.drop k) = if x = 0 then fz (xs.drop (k + 1)) else x := by
  obtain ⟨hk, e⟩ := List.getElem?_eq_some_iff.1 h
  rw [List.drop_eq_getElem_cons hk, e]; rfl
set_option maxRecDepth 100000 in
set_option maxHeartbeats 2000000 in
theorem or_any (xs : List Int) (g c : Nat) (w : World) (hx : ∀ j x, xs[j]? = some x → w.cell? ⟨g, j, none⟩ = some (.int .i64 x)) (hl : xs.length ≤ 1000) :
    Calls Tryz.prog 218 #[.slice (some ⟨g, 0, none⟩) xs.length c] w fun e w' => e = .returned (.int .i64 (fz xs)) ∧ w' = w := by
  obtain ⟨n, hn⟩ : ∃ n, xs.length = n := ⟨_, rfl⟩
  have hnI : (n : Int) ≤ 1000 := by omega
  rw [hn]
  have hnH := hidP hn
  have fin : Hid (∀ r, fz xs = r → Ending.returned (.int .i64 r) = .returned (.int .i64 (fz xs))) := fun r e => by rw [e]
  clear hn hl
  go_enter Tryz.func218, Tryz.ntmps218
  go_wp2_with fail
  go_loop [8] (fun i => ∃ k : Nat, k ≤ n ∧ i = .int .i64 k ∧ Hid (fz (xs.drop k) = fz xs)) (fun i => n - (intOf i).toNat)
  case atStart => exact ⟨0, Nat.zero_le _, rfl, by show fz (xs.drop 0) = _; rw [List.drop_zero]⟩
  case round =>
    obtain ⟨k, hk, rfl, hf⟩ := hrel
    by_cases hlt : k < n
    · obtain ⟨x, hxk⟩ : ∃ x, xs[k]? = some x := ⟨_, List.getElem?_eq_getElem (by have := hnH.out; omega)⟩
      have hc := hx k x hxk
      have hd := hidP (fz_drop hxk)
      clear hxk
      by_cases h0 : x = 0
      · subst h0
        go_wp2_with fail
        go_round
        case rel => exact ⟨k + 1, by omega, by go_num, by show _ = _; rw [← hf.out, hd.out, if_pos rfl]⟩
        case measure => simp [intOf]; omega
      · go_wp2_with fail
        go_ret
        exact ⟨fin.out _ (by rw [← hf.out, hd.out, if_neg h0]), rfl⟩
    · go_wp2_with fail
      go_ret
      exact ⟨fin.out _ (by rw [← hf.out, List.drop_eq_nil_of_le (by have := hnH.out; omega)]; rfl), rfl⟩
theorem sg_neg (a b : Int) : (sg a b < 0 ↔ a < b) ∧ (sg a b = 0 ↔ a = b) := by
  unfold sg
  split
  · exact ⟨⟨fun _ => ‹_›, fun _ => (by decide)⟩, ⟨fun h => (by cases h), fun h => (by omega)⟩⟩
  · split
    · exact ⟨⟨fun h => (by cases h), fun h => (by omega)⟩, ⟨fun h => (by cases h), fun h => (by omega)⟩⟩
    · exact ⟨⟨fun h => (by cases h), fun h => (by omega)⟩, ⟨fun _ => (by omega), fun _ => rfl⟩⟩
theorem ba_ext {a b : ByteArray} (h : a.toList = b.toList) : a = b := by
  rw [Go.Lib.toList_data, Go.Lib.toList_data] at h
  exact ByteArray.ext (Array.toList_inj.1 h)
theorem sgS_neg (a b : ByteArray) : (sgS a b < 0 ↔ a.toList < b.toList) ∧ (sgS a b = 0 ↔ a = b) := by
  unfold sgS
  rw [bytesLess_eq]
  by_cases h : a.toList < b.toList
  · rw [if_pos (decide_eq_true h)]
    exact ⟨⟨fun _ => h, fun _ => (by decide)⟩, ⟨fun z => (by cases z), fun z => absurd (z ▸ h) (List.lt_irrefl _)⟩⟩
  · rw [if_neg (by rw [decide_eq_true_iff]; exact h)]
    by_cases e : a = b
    · subst e
      rw [if_pos (by simp)]
      exact ⟨⟨fun z => absurd z (by decide), fun z => absurd z h⟩, ⟨fun _ => rfl, fun _ => rfl⟩⟩
    · rw [if_neg (fun q => e (ba_ext (by simpa using q)))]
      exact ⟨⟨fun z => absurd z (by decide), fun z => absurd z h⟩, ⟨fun z => absurd z (by decide), fun z => absurd z e⟩⟩
/-- Edges by kind, then by what they come from, then by where they go. -/
def ltE (a b : Ed) : Prop := a.1 < b.1 ∨ a.1 = b.1 ∧ (a.2.1.toList < b.2.1.toList ∨ a.2.1 = b.2.1 ∧ a.2.2.toList < b.2.2.toList)
def cfE (a b : Ed) : Int := fz [sg a.1 b.1, sgS a.2.1 b.2.1, sgS a.2.2 b.2.2]
theorem cfE_lt (a b : Ed) : cfE a b < 0 ↔ ltE a b := by
  have h1 := sg_neg a.1 b.1
  have h2 := sgS_neg a.2.1 b.2.1
  have h3 := sgS_neg a.2.2 b.2.2
  unfold cfE ltE
  simp only [fz]
  split
  · next e =>
    have et := h1.2.1 e
    have nt : ¬ a.1 < b.1 := by omega
    split
    · next e2 =>
      have eu := h2.2.1 e2
      have nu : ¬ a.2.1.toList < b.2.1.toList := fun z => by have := h2.1.2 z; omega
      split
      · next e3 =>
        have nw : ¬ a.2.2.toList < b.2.2.toList := fun z => by have := h3.1.2 z; omega
        refine ⟨fun z => absurd z (by decide), fun z => ?_⟩
        rcases z with z | ⟨_, z | ⟨_, z⟩⟩
        · exact absurd z nt
        · exact absurd z nu
        · exact absurd z nw
      · rw [h3.1]
        refine ⟨fun z => .inr ⟨et, .inr ⟨eu, z⟩⟩, fun z => ?_⟩
        rcases z with z | ⟨_, z | ⟨_, z⟩⟩
        · exact absurd z nt
        · exact absurd z nu
        · exact z
    · next e2 =>
      have nu : ¬ a.2.1 = b.2.1 := fun z => e2 (h2.2.2 z)
      rw [h2.1]
      refine ⟨fun z => .inr ⟨et, .inl z⟩, fun z => ?_⟩
      rcases z with z | ⟨_, z | ⟨z, _⟩⟩
      · exact absurd z nt
      · exact z
      · exact absurd z nu
  · next e =>
    have ne : ¬ a.1 = b.1 := fun z => e (h1.2.2 z)
    rw [h1.1]
    refine ⟨.inl, fun z => ?_⟩
    rcases z with z | ⟨z, _⟩
    · exact z
    · exact absurd z ne
theorem ltE_irrefl (a : Ed) : ¬ ltE a a := by
  rintro (h | ⟨_, h | ⟨_, h⟩⟩)
  · omega
  · exact List.lt_irrefl _ h
  · exact List.lt_irrefl _ h
theorem ltE_trans {a b c : Ed} (h1 : ltE a b) (h2 : ltE b c) : ltE a c := by
  rcases h1 with h1 | ⟨e1, h1⟩ <;> rcases h2 with h2 | ⟨e2, h2⟩
  · exact .inl (by omega)
  · exact .inl (by omega)
  · exact .inl (by omega)
  · refine .inr ⟨by omega, ?_⟩
    rcases h1 with h1 | ⟨f1, h1⟩ <;> rcases h2 with h2 | ⟨f2, h2⟩
    · exact .inl (List.lt_trans h1 h2)
    · exact .inl (f2 ▸ h1)
    · exact .inl (f1 ▸ h2)
    · exact .inr ⟨f1.trans f2, List.lt_trans h1 h2⟩
theorem ltB_tri (a b : ByteArray) : a.toList < b.toList ∨ a = b ∨ b.toList < a.toList := by
  by_cases h : a.toList < b.toList
  · exact .inl h
  · by_cases h2 : b.toList < a.toList
    · exact .inr (.inr h2)
    · exact .inr (.inl (ba_ext (List.le_antisymm (List.not_lt.1 h2) (List.not_lt.1 h))))
theorem ltE_tri (a b : Ed) : ltE a b ∨ a = b ∨ ltE b a := by
  obtain ⟨a1, a2, a3⟩ := a
  obtain ⟨b1, b2, b3⟩ := b
  rcases Int.lt_trichotomy a1 b1 with h | h | h
  · exact .inl (.inl h)
  · subst h
    rcases ltB_tri a2 b2 with h | h | h
    · exact .inl (.inr ⟨rfl, .inl h⟩)
    · subst h
      rcases ltB_tri a3 b3 with h | h | h
      · exact .inl (.inr ⟨rfl, .inr ⟨rfl, h⟩⟩)
      · subst h; exact .inr (.inl rfl)
      · exact .inr (.inr (.inr ⟨rfl, .inr ⟨rfl, h⟩⟩))
    · exact .inr (.inr (.inr ⟨rfl, .inl h⟩))
  · exact .inr (.inr (.inl h))
theorem ltOfE (a b : Ed) : ltOf cfE a b = true ↔ ltE a b := by
  unfold ltOf
  rw [decide_eq_true_iff]; exact cfE_lt a b
theorem swoE : Go.Sort.SWO (ltOf cfE) where
  irrefl x := by
    cases h : ltOf cfE x x
    · rfl
    · exact absurd ((ltOfE _ _).1 h) (ltE_irrefl x)
  trans x y z h1 h2 := (ltOfE _ _).2 (ltE_trans ((ltOfE _ _).1 h1) ((ltOfE _ _).1 h2))
  ntrans x y z h1 h2 := by
    cases h : ltOf cfE x z
    · rfl
    · have hz := (ltOfE _ _).1 h
      have n1 : ¬ ltE x y := fun q => by rw [(ltOfE _ _).2 q] at h1; cases h1
      have n2 : ¬ ltE y z := fun q => by rw [(ltOfE _ _).2 q] at h2; cases h2
      rcases ltE_tri x y with q | q | q
      · exact absurd q n1
      · exact absurd (q ▸ hz) n2
      · exact absurd (ltE_trans q hz) n2
end Go.Proofs.YtedgnigogkmgkaaGreatDoor
/- graph.compare. -/
namespace Go.Proofs.YtedgnigogkmgkaaGreatDoor
open Go.RowKit Go.Shelf Go.Lib
attribute [local go_sem] Oper.semAt_some
set_option maxRecDepth 100000 in
set_option maxHeartbeats 4000000 in
theorem compare_any (a b : Ed) (w : World) : Calls Tryz.prog 192 #[.agg #[.int .i64 a.1, .string a.2.1, .string a.2.2], .agg #[.int .i64 b.1, .string b.2.1, .string b.2.2]] w fun e w' => e = .returned (.int .i64 (cfE a b)) ∧ ∃ q os', w' = Go.Sort.grow (w.drewN q) os' := by
  obtain ⟨n, hn⟩ : ∃ n, w.heap.size = n := ⟨_, rfl⟩
  obtain ⟨W0, hW0⟩ : ∃ W0, (w.alloc (.cells #[.int .i64 a.1, .string a.2.1, .string a.2.2] 156)).alloc (.cells #[.int .i64 b.1, .string b.2.1, .string b.2.2] 156) = W0 := ⟨_, rfl⟩
  have b0 : Below w.heap.size w W0 := by rw [← hW0]; exact ((Below.refl _ _).alloc (Nat.le_refl _) _).alloc (by simp) _
  have s0 : W0.heap.size = n + 2 := by rw [← hW0]; simp [hn]
  have ka : ∀ j u, #[.int .i64 a.1, .string a.2.1, .string a.2.2][j]? = some u → W0.cell? ⟨n, j, none⟩ = some u := fun j u hj => by rw [← hW0]; exact (Mv.alloc (fun _ => False) _ _).cell (fun h => h) (cell_at hn hj)
  have kb : ∀ j u, #[.int .i64 b.1, .string b.2.1, .string b.2.2][j]? = some u → W0.cell? ⟨n + 1, j, none⟩ = some u := fun j u hj => by rw [← hW0]; exact cell_at (by simp [hn]) hj
  have hS : (W0.drew.cell? ⟨n, 0, none⟩ = some (.int .i64 a.1) ∧ W0.drew.cell? ⟨n, 1, none⟩ = some (.string a.2.1) ∧ W0.drew.cell? ⟨n, 2, none⟩ = some (.string a.2.2)) ∧ (W0.drew.cell? ⟨(n + 1), 0, none⟩ = some (.int .i64 b.1) ∧ W0.drew.cell? ⟨(n + 1), 1, none⟩ = some (.string b.2.1) ∧ W0.drew.cell? ⟨(n + 1), 2, none⟩ = some (.string b.2.2)) := ⟨⟨ka 0 _ rfl, ka 1 _ rfl, ka 2 _ rfl⟩, ⟨kb 0 _ rfl, kb 1 _ rfl, kb 2 _ rfl⟩⟩
  obtain ⟨r0, hr0⟩ : ∃ r, sg a.1 b.1 = r := ⟨_, rfl⟩
  obtain ⟨r1, hr1⟩ : ∃ r, sgS a.2.1 b.2.1 = r := ⟨_, rfl⟩
  obtain ⟨r2, hr2⟩ : ∃ r, sgS a.2.2 b.2.2 = r := ⟨_, rfl⟩
  obtain ⟨r, hr⟩ : ∃ r, fz [r0, r1, r2] = r := ⟨_, rfl⟩
  have fin : Hid (Ending.returned (.int .i64 r) = .returned (.int .i64 (cfE a b))) := by
    show _ = _
    unfold cfE; rw [← hr, ← hr0, ← hr1, ← hr2]
  obtain ⟨A, hA⟩ : ∃ A, W0.drew.alloc (.cells #[.int .i64 r0, .int .i64 r1, .int .i64 r2] 3) = A := ⟨_, rfl⟩
  have bA : Below w.heap.size w A := by rw [← hA]; exact b0.drew.alloc (by have := b0.size; simpa using this) _
  have hS1 : (A.cell? ⟨n, 0, none⟩ = some (.int .i64 a.1) ∧ A.cell? ⟨n, 1, none⟩ = some (.string a.2.1) ∧ A.cell? ⟨n, 2, none⟩ = some (.string a.2.2)) ∧ (A.cell? ⟨(n + 1), 0, none⟩ = some (.int .i64 b.1) ∧ A.cell? ⟨(n + 1), 1, none⟩ = some (.string b.2.1) ∧ A.cell? ⟨(n + 1), 2, none⟩ = some (.string b.2.2)) := by
    have f : ∀ {k j : Nat} {v : Value}, W0.drew.cell? ⟨k, j, none⟩ = some v → A.cell? ⟨k, j, none⟩ = some v := fun {k j v} c => by rw [← hA]; exact (Mv.alloc (fun _ => False) _ _).cell (fun h => h) c
    exact ⟨⟨f hS.1.1, f hS.1.2.1, f hS.1.2.2⟩, ⟨f hS.2.1, f hS.2.2.1, f hS.2.2.2⟩⟩
  have hC0 : Hid (∀ W, Calls Tryz.prog 92 #[.int .i64 a.1, .int .i64 b.1] W fun e w' => e = .returned (.int .i64 r0) ∧ w' = W) := fun W => by rw [← hr0]; exact cmpI _ _ W
  have hC1 : Hid (∀ W, Calls Tryz.prog 219 #[.string a.2.1, .string b.2.1] W fun e w' => e = .returned (.int .i64 r1) ∧ w' = W) := fun W => by rw [← hr1]; exact cmpS _ _ W
  have hC2 : Hid (∀ W, Calls Tryz.prog 219 #[.string a.2.2, .string b.2.2] W fun e w' => e = .returned (.int .i64 r2) ∧ w' = W) := fun W => by rw [← hr2]; exact cmpS _ _ W
  have hO : Hid (Calls Tryz.prog 218 #[.slice (some ⟨W0.heap.size, 0, none⟩) 3 3] A fun e w' => e = .returned (.int .i64 r) ∧ w' = A) := by
    rw [← hr]
    refine or_any [r0, r1, r2] W0.heap.size 3 A (fun j x hj => ?_) (by simp)
    rw [← hA]
    have hj' : #[Value.int .i64 r0, Value.int .i64 r1, Value.int .i64 r2][j]? = some (.int .i64 x) := by
      match j, hj with
      | 0, hj => simp at hj; subst hj; rfl
      | 1, hj => simp at hj; subst hj; rfl
      | 2, hj => simp at hj; subst hj; rfl
      | j + 3, hj => simp at hj
    exact cell_at (by simp) hj'
  clear hr0 hr1 hr2 hr s0 ka kb
  have bAH : Hid (∃ q os', A = Go.Sort.grow (w.drewN q) os') := ⟨1, _, by rw [← hA, ← hW0, Go.Sort.alloc_eq_grow, Go.Sort.alloc_eq_grow, Go.Sort.alloc_eq_grow, Go.Sort.grow_grow]; exact Go.Sort.grow_grow (w.drewN 1) _ _⟩
  clear bA b0
  go_enter Tryz.func192, Tryz.ntmps192
  go_wp2_with (rw [hW0])
  refine Zs.region (S := fun W => (W.cell? ⟨n, 0, none⟩ = some (.int .i64 a.1) ∧ W.cell? ⟨n, 1, none⟩ = some (.string a.2.1) ∧ W.cell? ⟨n, 2, none⟩ = some (.string a.2.2)) ∧ (W.cell? ⟨(n + 1), 0, none⟩ = some (.int .i64 b.1) ∧ W.cell? ⟨(n + 1), 1, none⟩ = some (.string b.2.1) ∧ W.cell? ⟨(n + 1), 2, none⟩ = some (.string b.2.2))) 17 (by kernel_rfl) ?_
  refine Zs.pure (i := 0) (oi := ⟨some 5, _, _, _, _, _⟩) (v := ?v0) rfl (by kernel_rfl) (by kernel_rfl) (by kernel_rfl) (by decide) (fun _ _ _ h => h) (Or.inl ⟨by rfl, ?hy0⟩) hS ?_
  case hy0 => (intro w hSw; (try dsimp only at hSw); go_simp; try with_reducible rfl)
  simp only [Act.put, List.setIfInBounds_toArray, List.set_cons_zero, List.set_cons_succ]
  refine Zs.take (i := 1) (oi := ⟨some 6, _, _, _, _, _⟩) (v := .int .i64 a.1) rfl (by kernel_rfl) (by kernel_rfl) (by kernel_rfl) (by decide) (by kernel_rfl) (by kernel_rfl) (fun _ _ _ h => h) (Or.inl ⟨by rfl, ?hy1⟩) hS ?_
  case hy1 => (intro w hSw; (try dsimp only at hSw); go_simp; try with_reducible rfl)
  simp only [Act.put, List.setIfInBounds_toArray, List.set_cons_zero, List.set_cons_succ]
  refine Zs.pure (i := 2) (oi := ⟨some 7, _, _, _, _, _⟩) (v := ?v2) rfl (by kernel_rfl) (by kernel_rfl) (by kernel_rfl) (by decide) (fun _ _ _ h => h) (Or.inl ⟨by rfl, ?hy2⟩) hS ?_
  case hy2 => (intro w hSw; (try dsimp only at hSw); go_simp; try with_reducible rfl)
  simp only [Act.put, List.setIfInBounds_toArray, List.set_cons_zero, List.set_cons_succ]
  refine Zs.take (i := 3) (oi := ⟨some 8, _, _, _, _, _⟩) (v := .int .i64 b.1) rfl (by kernel_rfl) (by kernel_rfl) (by kernel_rfl) (by decide) (by kernel_rfl) (by kernel_rfl) (fun _ _ _ h => h) (Or.inl ⟨by rfl, ?hy3⟩) hS ?_
  case hy3 => (intro w hSw; (try dsimp only at hSw); go_simp; try with_reducible rfl)
  simp only [Act.put, List.setIfInBounds_toArray, List.set_cons_zero, List.set_cons_succ]
  refine Zs.pure (i := 5) (oi := ⟨some 10, _, _, _, _, _⟩) (v := ?v5) rfl (by kernel_rfl) (by kernel_rfl) (by kernel_rfl) (by decide) (fun _ _ _ h => h) (Or.inl ⟨by rfl, ?hy5⟩) hS ?_
  case hy5 => (intro w hSw; (try dsimp only at hSw); go_simp; try with_reducible rfl)
  simp only [Act.put, List.setIfInBounds_toArray, List.set_cons_zero, List.set_cons_succ]
  refine Zs.take (i := 6) (oi := ⟨some 11, _, _, _, _, _⟩) (v := .string a.2.1) rfl (by kernel_rfl) (by kernel_rfl) (by kernel_rfl) (by decide) (by kernel_rfl) (by kernel_rfl) (fun _ _ _ h => h) (Or.inl ⟨by rfl, ?hy6⟩) hS ?_
  case hy6 => (intro w hSw; (try dsimp only at hSw); go_simp; try with_reducible rfl)
  simp only [Act.put, List.setIfInBounds_toArray, List.set_cons_zero, List.set_cons_succ]
  refine Zs.pure (i := 7) (oi := ⟨some 12, _, _, _, _, _⟩) (v := ?v7) rfl (by kernel_rfl) (by kernel_rfl) (by kernel_rfl) (by decide) (fun _ _ _ h => h) (Or.inl ⟨by rfl, ?hy7⟩) hS ?_
  case hy7 => (intro w hSw; (try dsimp only at hSw); go_simp; try with_reducible rfl)
  simp only [Act.put, List.setIfInBounds_toArray, List.set_cons_zero, List.set_cons_succ]
  refine Zs.take (i := 8) (oi := ⟨some 13, _, _, _, _, _⟩) (v := .string b.2.1) rfl (by kernel_rfl) (by kernel_rfl) (by kernel_rfl) (by decide) (by kernel_rfl) (by kernel_rfl) (fun _ _ _ h => h) (Or.inl ⟨by rfl, ?hy8⟩) hS ?_
  case hy8 => (intro w hSw; (try dsimp only at hSw); go_simp; try with_reducible rfl)
  simp only [Act.put, List.setIfInBounds_toArray, List.set_cons_zero, List.set_cons_succ]
  refine Zs.pure (i := 10) (oi := ⟨some 15, _, _, _, _, _⟩) (v := ?v10) rfl (by kernel_rfl) (by kernel_rfl) (by kernel_rfl) (by decide) (fun _ _ _ h => h) (Or.inl ⟨by rfl, ?hy10⟩) hS ?_
  case hy10 => (intro w hSw; (try dsimp only at hSw); go_simp; try with_reducible rfl)
  simp only [Act.put, List.setIfInBounds_toArray, List.set_cons_zero, List.set_cons_succ]
  refine Zs.take (i := 11) (oi := ⟨some 16, _, _, _, _, _⟩) (v := .string a.2.2) rfl (by kernel_rfl) (by kernel_rfl) (by kernel_rfl) (by decide) (by kernel_rfl) (by kernel_rfl) (fun _ _ _ h => h) (Or.inl ⟨by rfl, ?hy11⟩) hS ?_
  case hy11 => (intro w hSw; (try dsimp only at hSw); go_simp; try with_reducible rfl)
  simp only [Act.put, List.setIfInBounds_toArray, List.set_cons_zero, List.set_cons_succ]
  refine Zs.pure (i := 12) (oi := ⟨some 17, _, _, _, _, _⟩) (v := ?v12) rfl (by kernel_rfl) (by kernel_rfl) (by kernel_rfl) (by decide) (fun _ _ _ h => h) (Or.inl ⟨by rfl, ?hy12⟩) hS ?_
  case hy12 => (intro w hSw; (try dsimp only at hSw); go_simp; try with_reducible rfl)
  simp only [Act.put, List.setIfInBounds_toArray, List.set_cons_zero, List.set_cons_succ]
  refine Zs.take (i := 13) (oi := ⟨some 18, _, _, _, _, _⟩) (v := .string b.2.2) rfl (by kernel_rfl) (by kernel_rfl) (by kernel_rfl) (by decide) (by kernel_rfl) (by kernel_rfl) (fun _ _ _ h => h) (Or.inl ⟨by rfl, ?hy13⟩) hS ?_
  case hy13 => (intro w hSw; (try dsimp only at hSw); go_simp; try with_reducible rfl)
  simp only [Act.put, List.setIfInBounds_toArray, List.set_cons_zero, List.set_cons_succ]
  refine Zs.one (i := 4) (oi := ⟨some 9, _, _, _, _, _⟩) (by kernel_rfl) rfl (fun K hK => ?_)
  go_simp
  refine (hC0.out _).mono ?_
  rintro e V1 ⟨rfl, rfl⟩
  go_wp2_with fail
  refine hK.out _ _ (fun _ => hS) ?_
  clear hK K
  try simp only [Act.put, List.setIfInBounds_toArray, List.set_cons_zero, List.set_cons_succ]
  refine Zs.one (i := 9) (oi := ⟨some 14, _, _, _, _, _⟩) (by kernel_rfl) rfl (fun K hK => ?_)
  go_simp
  refine (hC1.out _).mono ?_
  rintro e V1 ⟨rfl, rfl⟩
  go_wp2_with fail
  refine hK.out _ _ (fun _ => hS) ?_
  clear hK K
  try simp only [Act.put, List.setIfInBounds_toArray, List.set_cons_zero, List.set_cons_succ]
  refine Zs.one (i := 14) (oi := ⟨some 19, _, _, _, _, _⟩) (by kernel_rfl) rfl (fun K hK => ?_)
  go_simp
  refine (hC2.out _).mono ?_
  rintro e V1 ⟨rfl, rfl⟩
  go_wp2_with fail
  refine hK.out _ _ (fun _ => hS) ?_
  clear hK K
  try simp only [Act.put, List.setIfInBounds_toArray, List.set_cons_zero, List.set_cons_succ]
  refine Zs.one (i := 15) (oi := ⟨some 20, _, _, _, _, _⟩) (by kernel_rfl) rfl (fun K hK => ?_)
  go_simp
  refine hK.out _ _ (fun _ => hS1) ?_
  clear hK K
  try simp only [Act.put, List.setIfInBounds_toArray, List.set_cons_zero, List.set_cons_succ]
  refine Zs.one (i := 16) (oi := ⟨some 21, _, _, _, _, _⟩) (by kernel_rfl) rfl (fun K hK => ?_)
  go_simp
  refine hO.out.mono ?_
  rintro e V1 ⟨rfl, rfl⟩
  go_wp2_with fail
  refine hK.out _ _ (fun _ => hS1) ?_
  clear hK K
  try simp only [Act.put, List.setIfInBounds_toArray, List.set_cons_zero, List.set_cons_succ]
  refine Zs.one (i := 17) (oi := ⟨some 4, _, _, _, _, _⟩) (by kernel_rfl) rfl (fun K hK => ?_)
  go_simp
  refine hK.out _ _ (fun q => absurd q (by decide)) ?_
  clear hK K
  try simp only [Act.put, List.setIfInBounds_toArray, List.set_cons_zero, List.set_cons_succ]
  refine Zs.done (by kernel_rfl) ?_ _
  go_wp2_with fail
  go_ret
  exact ⟨fin.out, bAH.out⟩
end Go.Proofs.YtedgnigogkmgkaaGreatDoor
/- slices.SortFunc of edges. -/
namespace Go.Proofs.YtedgnigogkmgkaaGreatDoor.Eg
open Go.RowKit Go.Shelf Go.Lib
attribute [local go_sem] Oper.semAt_some
def enc3 (x : Ed) : List Value := [.int .i64 x.1, .string x.2.1, .string x.2.2]
theorem flat_get (d : Array Ed) {t : Nat} (h : t < d.size * 3) : (flat d.toList)[t]? = some ((Go.Sort.flatK enc3 3 d)[t]!) := by
  rw [Go.Sort.get_flatK _ _ _ _ h]
  have hj : t / 3 < d.size := by omega
  have hx : d.toList[t / 3]? = some d[t / 3]! := by
    rw [Array.getElem?_toList, getElem!_pos d (t / 3) hj, Array.getElem?_eq_getElem hj]
  obtain ⟨h0, h1, h2⟩ := flat_at _ _ _ hx
  obtain ⟨x, e⟩ : ∃ x, d[t / 3]! = x := ⟨_, rfl⟩
  rw [e] at h0 h1 h2 ⊢
  have hm : t % 3 = 0 ∨ t % 3 = 1 ∨ t % 3 = 2 := by omega
  rcases hm with m | m | m
  · rw [m]
    rw [show t / 3 * 3 = t by omega] at h0
    exact h0
  · rw [m]
    rw [show t / 3 * 3 + 1 = t by omega] at h1
    exact h1
  · rw [m]
    rw [show t / 3 * 3 + 2 = t by omega] at h2
    exact h2
theorem holds_of {w : World} {g o cap : Nat} {d : Array Ed} (h : RS w g o cap d.toList) : Go.Sort.HoldsK enc3 3 w g o d := by
  intro j hj
  rw [Go.Sort.size_flatK] at hj
  refine ⟨h.ra j _ (flat_get d hj), h.rm.fz j ?_⟩
  have := h.le
  rw [Array.length_toList] at this
  omega
theorem sorted_world {w : World} {g o cap n : Nat} {d d' : Array Ed} {os : Array Obj} (h : RS w g o cap d.toList) (hs : d'.size = d.size) (hp : 0 < d.size) : RS (sortWorldK enc3 3 w g o n d' os) g o cap d'.toList ∧ Cv (fun k j => k = g ∧ o ≤ j ∧ j < o + d.size * 3) w (sortWorldK enc3 3 w g o n d' os) := by
  have h0 : Go.Sort.HoldsK enc3 3 (Go.Sort.ahead w n) g o d := fun j hj => holds_of h j hj
  have h1 := Go.Sort.holdsK_putRowK (enc := enc3) (k := 3) (Go.Sort.ahead w n) g o d d' h0 hs
  have hsz : (Go.Sort.putRowK enc3 3 (Go.Sort.ahead w n) g o d').heap.size = w.heap.size := Go.Sort.size_putRow ..
  have hce : ∀ k j, k < w.heap.size → (sortWorldK enc3 3 w g o n d' os).cell? ⟨k, j, none⟩ = (Go.Sort.putRowK enc3 3 (Go.Sort.ahead w n) g o d').cell? ⟨k, j, none⟩ := fun k j hk => Go.Sort.cell?_grow _ _ _ (by rw [hsz]; exact hk)
  have hout : ∀ k j, k < w.heap.size → ¬ (k = g ∧ o ≤ j ∧ j < o + d.size * 3) → (sortWorldK enc3 3 w g o n d' os).cell? ⟨k, j, none⟩ = w.cell? ⟨k, j, none⟩ := fun k j hk hn => by
    rw [hce k j hk]
    refine (Go.Sort.cell?_putRow_other id (Go.Sort.ahead w n) g o _ ⟨k, j, none⟩ ?_).trans rfl
    rw [Go.Sort.size_flatK, hs]
    show k ≠ g ∨ j < o ∨ o + d.size * 3 ≤ j
    omega
  have hin : ∀ j, j < d.size * 3 → (sortWorldK enc3 3 w g o n d' os).cell? ⟨g, o + j, none⟩ = some ((Go.Sort.flatK enc3 3 d')[j]!) := fun j hj => by
    rw [hce g _ h.rm.lt]
    exact (h1 j (by rw [Go.Sort.size_flatK, hs]; exact hj)).1
  have hfr : ∀ k j, k < w.heap.size → (sortWorldK enc3 3 w g o n d' os).frozen? ⟨k, j, none⟩ = w.frozen? ⟨k, j, none⟩ := fun k j hk => by
    have e1 : (sortWorldK enc3 3 w g o n d' os).frozen? ⟨k, j, none⟩ = (Go.Sort.putRowK enc3 3 (Go.Sort.ahead w n) g o d').frozen? ⟨k, j, none⟩ := by
      unfold sortWorldK World.frozen?
      rw [Go.Sort.heap_grow_old _ _ (by rw [hsz]; exact hk)]
    rw [e1]
    exact Go.Sort.frozen?_putRow ..
  have hmv : Cv (fun k j => k = g ∧ o ≤ j ∧ j < o + d.size * 3) w (sortWorldK enc3 3 w g o n d' os) := by
    refine ⟨⟨rfl, rfl, rfl, ?_, fun k hk hn => ?_⟩, hout, fun k j hk c => ?_, hfr⟩
    · show _ ≤ (Go.Sort.grow _ _).heap.size
      simp only [Go.Sort.grow, Array.size_append, hsz]; omega
    · unfold sortWorldK
      rw [Go.Sort.heap_grow_old _ _ (by rw [hsz]; exact hk)]
      have hkg : ¬ g = k := fun e => hn ⟨o, e.symm, Nat.le_refl _, by omega⟩
      show ((Go.Sort.ahead w n).heap.modify g _)[k]? = _
      rw [Array.getElem?_modify, if_neg hkg]
      rfl
    · by_cases q : k = g ∧ o ≤ j ∧ j < o + d.size * 3
      · obtain ⟨rfl, q1, q2⟩ := q
        obtain ⟨i, rfl⟩ : ∃ i, j = o + i := ⟨j - o, by omega⟩
        rw [hin i (by omega)]; rfl
      · rw [hout k j hk q]; exact c
  have hl : d'.toList.length = d.toList.length := by simp [hs]
  refine ⟨⟨by rw [hl]; exact h.le, h.rm.cv hmv, fun j u hj => ?_⟩, hmv⟩
  have hj2 : j < d'.size * 3 := by have := (List.getElem?_eq_some_iff.1 hj).1; rw [flat_len] at this; simpa using this
  rw [flat_get d' hj2] at hj
  rw [hin j (by rw [← hs]; exact hj2)]
  exact hj
theorem sort_any {w : World} {g o cap : Nat} {xs : List Ed} (h : RS w g o cap xs) (h0 : 0 < xs.length) (hl : xs.length ≤ 400000) :
    Calls Tryz.prog 216 #[slv g o xs.length cap, .func (.func 192) #[] #[]] w fun e V => e = .returned (.tuple #[]) ∧ ∃ ys, ys.Perm xs ∧ ys.Pairwise (fun a b => ¬ ltE b a) ∧ RS V g o cap ys ∧ Cv (fun k j => k = g ∧ o ≤ j ∧ j < o + xs.length * 3) w V := by
  obtain ⟨d, hd⟩ : ∃ d : Array Ed, xs.toArray = d := ⟨_, rfl⟩
  have hx : xs = d.toList := by rw [← hd]
  have hsz : d.size = xs.length := by rw [← hd]; simp
  have h' := h
  rw [hx] at h'
  have hcon := AnyQ.slices_SortFunc Tryz.sortTe 3 Tryz.isAgg156 Tryz.sizeOf156 enc3 (fun _ => rfl) (fun x v hv => by simp [enc3] at hv; rcases hv with rfl | rfl | rfl <;> rfl) cfE swoE 192 #[] g o cap d w (enters_of Tryz.func192 (by kernel_rfl) rfl) (fun _ _ _ _ x y => compare_any x y _) (holds_of h') h.rm.lt (by omega)
  change Calls Tryz.prog 216 _ _ _ at hcon
  rw [hsz] at hcon
  refine hcon.mono ?_
  rintro e V ⟨rfl, d', n, os, hp, hso, rfl⟩
  have hs' : d'.size = d.size := hp.1
  obtain ⟨r1, r2⟩ := sorted_world (n := n) (os := os) h' hs' (by omega)
  rw [hsz] at r2
  refine ⟨rfl, d'.toList, ?_, ?_, r1, r2⟩
  · have p := hp.2.2
    have e1 : (d'.extract 0 xs.length).toList = d'.toList := by rw [Array.extract_eq_self_of_le (by omega)]
    have e2 : (d.extract 0 xs.length).toList = d.toList := by rw [Array.extract_eq_self_of_le (by omega)]
    rw [e1, e2] at p
    rw [hx]
    exact p
  · rw [List.pairwise_iff_getElem]
    intro i j hi hj hij
    have q := hso i j (Nat.zero_le _) hij (by simp at hj; omega)
    simp only [Array.length_toList] at hi hj
    rw [getElem!_pos d' i hi, getElem!_pos d' j hj] at q
    simp only [Array.getElem_toList]
    intro z
    rw [(ltOfE _ _).2 z] at q
    cases q
set_option maxRecDepth 100000 in
set_option maxHeartbeats 2000000 in
theorem ins_zero (v f : Value) (w : World) : Calls Tryz.prog 254 #[v, .int .i64 0, .int .i64 0, f] w fun e V => e = .returned (.tuple #[]) ∧ V = w := by
  go_enter Tryz.func254, Tryz.ntmps254
  go_wp2_with fail
  go_loop [8] (fun i => i = .int .i64 1) (fun _ => 0)
  case atStart => rfl
  case round =>
    subst hrel
    go_wp2_with fail
    go_end0
    exact ⟨rfl, rfl⟩
set_option maxRecDepth 100000 in
set_option maxHeartbeats 2000000 in
theorem pdq_zero (v f : Value) (k : Int) (w : World) : Calls Tryz.prog 245 #[v, .int .i64 0, .int .i64 0, .int .i64 k, f] w fun e V => e = .returned (.tuple #[]) ∧ V = w := by
  have h := ins_zero v f w
  go_enter Tryz.func245, Tryz.ntmps245
  go_wp2_with fail
  go_loop [1, 2] (fun a b => a = .int .i64 0 ∧ b = .int .i64 0) (fun _ _ => 0)
  case atStart => exact ⟨rfl, rfl⟩
  case round =>
    obtain ⟨rfl, rfl⟩ := hrel
    go_wp2_with fail
    refine h.mono ?_
    rintro e1 w1 ⟨rfl, rfl⟩
    go_wp2_with fail
    refine bodyPost_ret (results_none rfl _ _ _) rfl ?_
    exact ⟨rfl, rfl⟩
set_option maxRecDepth 100000 in
set_option maxHeartbeats 2000000 in
theorem sort_zero (p : Option Addr) (c : Nat) (f : Value) (w : World) : Calls Tryz.prog 216 #[.slice p 0 c, f] w fun e V => e = .returned (.tuple #[]) ∧ V = w := by
  have h := fun k => pdq_zero (.slice p 0 c) f k w
  have hb : Calls Tryz.prog 129 #[.int .u64 0] w fun e w' => e = .returned (.int .i64 0) ∧ w' = w := by
    have h := Any.bits_Len (SlLaysF0.n15.bits (P := Tryz.prog) { Tryz.sortTe with }) 0 w (by omega) (by omega)
    exact h
  go_enter Tryz.func216, Tryz.ntmps216
  go_wp2_with fail
  refine hb.mono ?_
  rintro e1 w1 ⟨rfl, rfl⟩
  go_wp2_with fail
  refine (h _).mono ?_
  rintro e1 w1 ⟨rfl, rfl⟩
  go_wp2_with fail
  go_end0
  exact ⟨rfl, rfl⟩
end Go.Proofs.YtedgnigogkmgkaaGreatDoor.Eg
/- slices.SortedFunc of edges. -/
namespace Go.Proofs.YtedgnigogkmgkaaGreatDoor.Eg
open Go.RowKit Go.Shelf Go.Lib
attribute [local go_sem] Oper.semAt_some
set_option maxRecDepth 100000 in
set_option maxHeartbeats 2000000 in
theorem sortedf_any (xs : List Ed) (gf : Nat) (lb : Array Value) (eg : ∀ args w, (callFunc gf args).run Tryz.prog w = .ok (.enter gf args) w) (w : World) (hrow : ∀ W0, Below w.heap.size w W0 → RowP Tryz.prog gf lb enE xs (fun k => k = w.heap.size) W0) (hl : xs.length ≤ 400000) :
    Calls Tryz.prog 190 #[.func (.func gf) #[] lb, .func (.func 192) #[] #[]] w fun e V => ∃ v ys, e = .returned v ∧ ys.Perm xs ∧ ys.Pairwise (fun a b => ¬ ltE b a) ∧ SV V v ys ∧ Below w.heap.size w V ∧ (∀ k, nbk v = some k → w.heap.size ≤ k) := by
  have hC := collect_any xs gf lb eg w hrow hl
  clear hrow eg
  go_enter Tryz.func190, Tryz.ntmps190
  go_wp2_with fail
  refine hC.mono ?_
  rintro e V ⟨v, ys, rfl, hp, sv, bl, hk⟩
  have hS : Hid (Calls Tryz.prog 216 #[v, .func (.func 192) #[] #[]] V fun e V2 => e = .returned (.tuple #[]) ∧ ∃ ys, ys.Perm xs ∧ ys.Pairwise (fun a b => ¬ ltE b a) ∧ SV V2 v ys ∧ Below w.heap.size w V2) := by
    by_cases h0 : ys = []
    · subst h0
      obtain ⟨p, c, rfl⟩ := sv.shape
      refine (sort_zero p c _ V).mono ?_
      rintro e V2 ⟨rfl, rfl⟩
      exact ⟨rfl, [], hp, .nil, sv, bl⟩
    · obtain ⟨g, o, c, rfl, rs⟩ := sv.resolve_left (fun z => h0 z.2)
      refine (sort_any rs (by cases ys; exact absurd rfl h0; simp) (by rw [hp.length_eq]; exact hl)).mono ?_
      rintro e V2 ⟨rfl, zs, p2, so, rs2, cv⟩
      have hg := hk g rfl
      have m : Mv (fun k => k = g) V V2 := cv.mv.mono (fun k _ s => by obtain ⟨j, e, _⟩ := s; exact e)
      exact ⟨rfl, zs, p2.trans hp, so, .inr ⟨g, o, c, by rw [p2.length_eq], rs2⟩, ((Mv.below bl).trans' m).toBelow (Nat.le_refl _) (fun k hk e => by omega)⟩
  have hkH := hidP hk
  clear hp sv bl hk hC
  go_wp2_with fail
  refine hS.out.mono ?_
  rintro e V2 ⟨rfl, zs, hz⟩
  have hzH := hidP hz
  clear hz hS
  go_wp2_with fail
  go_ret
  exact ⟨v, zs, rfl, hzH.out.1, hzH.out.2.1, hzH.out.2.2.1, hzH.out.2.2.2, hkH.out⟩
end Go.Proofs.YtedgnigogkmgkaaGreatDoor.Eg
