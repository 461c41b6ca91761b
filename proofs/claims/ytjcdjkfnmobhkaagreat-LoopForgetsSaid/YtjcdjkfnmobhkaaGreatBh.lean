import Derived.Test.YtjcdjkfnmobhkaaGreatBe
import Derived.Test.YtjcdjkfnmobhkaaGreatBf
import Derived.Laws.Cover1
/- cmp at int, int64 and string; the two orders of a loop. -/
namespace Go.Proofs.YtjcdjkfnmobhkaaGreat
open Go.RowKit Go.Shelf Go.Lib
attribute [local go_sem] Oper.semAt_some
/-- What Compare tells. -/
def sg (a b : Int) : Int := if a < b then -1 else if b < a then 1 else 0
def sgS (a b : ByteArray) : Int := if Op.bytesLess a.toList b.toList = true then -1 else if (a.toList == b.toList) = true then 0 else 1
/-- The first that isn't 0. -/
def fz : List Int → Int
  | [] => 0
  | x :: l => if x = 0 then fz l else x
set_option maxRecDepth 100000 in
set_option maxHeartbeats 1000000 in
theorem nanI (x : Int) (w : World) : Calls Tryz.prog 62 #[.int .i64 x] w fun e w' => e = .returned (.bool false) ∧ w' = w := by
  go_enter Tryz.func62, Tryz.ntmps62
  go_wp2_with fail
  go_ret
  exact ⟨rfl, rfl⟩
set_option maxRecDepth 100000 in
set_option maxHeartbeats 1000000 in
theorem nanL (x : Int) (w : World) : Calls Tryz.prog 86 #[.int .i64 x] w fun e w' => e = .returned (.bool false) ∧ w' = w := by
  go_enter Tryz.func86, Tryz.ntmps86
  go_wp2_with fail
  go_ret
  exact ⟨rfl, rfl⟩
set_option maxRecDepth 100000 in
set_option maxHeartbeats 1000000 in
theorem nanS (x : ByteArray) (w : World) : Calls Tryz.prog 87 #[.string x] w fun e w' => e = .returned (.bool false) ∧ w' = w := by
  go_enter Tryz.func87, Tryz.ntmps87
  go_wp2_with fail
  go_ret
  exact ⟨rfl, rfl⟩
set_option maxRecDepth 100000 in
set_option maxHeartbeats 2000000 in
theorem cmpI (a b : Int) (w : World) : Calls Tryz.prog 48 #[.int .i64 a, .int .i64 b] w fun e w' => e = .returned (.int .i64 (sg a b)) ∧ w' = w := by
  have h1 := nanI a w
  have h2 := nanI b w
  have fin : Hid (∀ r, sg a b = r → Ending.returned (.int .i64 r) = .returned (.int .i64 (sg a b))) := fun r e => by rw [e]
  by_cases l1 : a < b
  · have e : Hid (sg a b = -1) := by show _ = _; unfold sg; rw [if_pos l1]
    go_enter Tryz.func48, Tryz.ntmps48
    go_wp2_with fail
    refine h1.mono ?_
    rintro e1 w1 ⟨rfl, rfl⟩
    go_wp2_with fail
    refine h2.mono ?_
    rintro e1 w1 ⟨rfl, rfl⟩
    go_wp2_with fail
    go_ret
    exact ⟨fin.out _ e.out, rfl⟩
  · by_cases l2 : b < a
    · have e : Hid (sg a b = 1) := by show _ = _; unfold sg; rw [if_neg l1, if_pos l2]
      have l3 : decide (a < b) = false := decide_eq_false l1
      have l4 : ¬ a < b := l1
      go_enter Tryz.func48, Tryz.ntmps48
      go_wp2_with fail
      refine h1.mono ?_
      rintro e1 w1 ⟨rfl, rfl⟩
      go_wp2_with fail
      refine h2.mono ?_
      rintro e1 w1 ⟨rfl, rfl⟩
      go_wp2_with fail
      go_ret
      exact ⟨fin.out _ e.out, rfl⟩
    · have e : Hid (sg a b = 0) := by show _ = _; unfold sg; rw [if_neg l1, if_neg l2]
      obtain rfl : a = b := by omega
      go_enter Tryz.func48, Tryz.ntmps48
      go_wp2_with fail
      refine h1.mono ?_
      rintro e1 w1 ⟨rfl, rfl⟩
      go_wp2_with fail
      refine h2.mono ?_
      rintro e1 w1 ⟨rfl, rfl⟩
      go_wp2_with fail
      go_ret
      exact ⟨fin.out _ e.out, rfl⟩
set_option maxRecDepth 100000 in
set_option maxHeartbeats 2000000 in
theorem cmpL (a b : Int) (w : World) : Calls Tryz.prog 69 #[.int .i64 a, .int .i64 b] w fun e w' => e = .returned (.int .i64 (sg a b)) ∧ w' = w := by
  have h1 := nanL a w
  have h2 := nanL b w
  have fin : Hid (∀ r, sg a b = r → Ending.returned (.int .i64 r) = .returned (.int .i64 (sg a b))) := fun r e => by rw [e]
  by_cases l1 : a < b
  · have e : Hid (sg a b = -1) := by show _ = _; unfold sg; rw [if_pos l1]
    go_enter Tryz.func69, Tryz.ntmps69
    go_wp2_with fail
    refine h1.mono ?_
    rintro e1 w1 ⟨rfl, rfl⟩
    go_wp2_with fail
    refine h2.mono ?_
    rintro e1 w1 ⟨rfl, rfl⟩
    go_wp2_with fail
    go_ret
    exact ⟨fin.out _ e.out, rfl⟩
  · by_cases l2 : b < a
    · have e : Hid (sg a b = 1) := by show _ = _; unfold sg; rw [if_neg l1, if_pos l2]
      have l3 : decide (a < b) = false := decide_eq_false l1
      have l4 : ¬ a < b := l1
      go_enter Tryz.func69, Tryz.ntmps69
      go_wp2_with fail
      refine h1.mono ?_
      rintro e1 w1 ⟨rfl, rfl⟩
      go_wp2_with fail
      refine h2.mono ?_
      rintro e1 w1 ⟨rfl, rfl⟩
      go_wp2_with fail
      go_ret
      exact ⟨fin.out _ e.out, rfl⟩
    · have e : Hid (sg a b = 0) := by show _ = _; unfold sg; rw [if_neg l1, if_neg l2]
      obtain rfl : a = b := by omega
      go_enter Tryz.func69, Tryz.ntmps69
      go_wp2_with fail
      refine h1.mono ?_
      rintro e1 w1 ⟨rfl, rfl⟩
      go_wp2_with fail
      refine h2.mono ?_
      rintro e1 w1 ⟨rfl, rfl⟩
      go_wp2_with fail
      go_ret
      exact ⟨fin.out _ e.out, rfl⟩
set_option maxRecDepth 100000 in
set_option maxHeartbeats 2000000 in
theorem cmpS (a b : ByteArray) (w : World) : Calls Tryz.prog 70 #[.string a, .string b] w fun e w' => e = .returned (.int .i64 (sgS a b)) ∧ w' = w := by
  have h1 := nanS a w
  have h2 := nanS b w
  have fin : Hid (∀ r, sgS a b = r → Ending.returned (.int .i64 r) = .returned (.int .i64 (sgS a b))) := fun r e => by rw [e]
  cases l1 : Op.bytesLess a.toList b.toList with
  | true =>
    have e : Hid (sgS a b = -1) := by show _ = _; unfold sgS; rw [if_pos l1]
    go_enter Tryz.func70, Tryz.ntmps70
    go_wp2_with fail
    refine h1.mono ?_
    rintro e1 w1 ⟨rfl, rfl⟩
    go_wp2_with fail
    refine h2.mono ?_
    rintro e1 w1 ⟨rfl, rfl⟩
    go_wp2_with fail
    go_ret
    exact ⟨fin.out _ e.out, rfl⟩
  | false =>
    cases l2 : a.toList == b.toList with
    | false =>
      have e : Hid (sgS a b = 1) := by show _ = _; unfold sgS; rw [l1, l2, if_neg (by decide), if_neg (by decide)]
      go_enter Tryz.func70, Tryz.ntmps70
      go_wp2_with fail
      refine h1.mono ?_
      rintro e1 w1 ⟨rfl, rfl⟩
      go_wp2_with fail
      refine h2.mono ?_
      rintro e1 w1 ⟨rfl, rfl⟩
      go_wp2_with fail
      go_ret
      exact ⟨fin.out _ e.out, rfl⟩
    | true =>
      have e : Hid (sgS a b = 0) := by show _ = _; unfold sgS; rw [l1, if_neg (by decide), if_pos l2]
      go_enter Tryz.func70, Tryz.ntmps70
      go_wp2_with fail
      refine h1.mono ?_
      rintro e1 w1 ⟨rfl, rfl⟩
      go_wp2_with fail
      refine h2.mono ?_
      rintro e1 w1 ⟨rfl, rfl⟩
      go_wp2_with fail
      go_ret
      exact ⟨fin.out _ e.out, rfl⟩
theorem fz_drop {xs : List Int} {k : Nat} {x : Int} (h : xs[k]? = some x) : fz (xs.drop k) = if x = 0 then fz (xs.drop (k + 1)) else x := by
  obtain ⟨hk, e⟩ := List.getElem?_eq_some_iff.1 h
  rw [List.drop_eq_getElem_cons hk, e]; rfl
set_option maxRecDepth 100000 in
set_option maxHeartbeats 2000000 in
theorem or_any (xs : List Int) (g c : Nat) (w : World) (hx : ∀ j x, xs[j]? = some x → w.cell? ⟨g, j, none⟩ = some (.int .i64 x)) (hl : xs.length ≤ 1000) :
    Calls Tryz.prog 47 #[.slice (some ⟨g, 0, none⟩) xs.length c] w fun e w' => e = .returned (.int .i64 (fz xs)) ∧ w' = w := by
  obtain ⟨n, hn⟩ : ∃ n, xs.length = n := ⟨_, rfl⟩
  have hnI : (n : Int) ≤ 1000 := by omega
  rw [hn]
  have hnH := hidP hn
  have fin : Hid (∀ r, fz xs = r → Ending.returned (.int .i64 r) = .returned (.int .i64 (fz xs))) := fun r e => by rw [e]
  clear hn hl
  go_enter Tryz.func47, Tryz.ntmps47
  go_wp2_with fail
  go_loop [8] (fun i => ∃ k : Nat, k ≤ n ∧ i = .int .i64 k ∧ Hid (fz (xs.drop k) = fz xs)) (fun i => n - (intOf i).toNat)
  case atStart => exact ⟨0, Nat.zero_le _, rfl, by show fz (xs.drop 0) = _; rw [List.drop_zero]⟩
  case round =>
    obtain ⟨k, hk, rfl, hf⟩ := hrel
    by_cases hlt : k < n
    · obtain ⟨x, hxk⟩ : ∃ x, xs[k]? = some x := ⟨_, List.getElem?_eq_getElem (by have := hnH.out; omega)⟩
      have hc := hx k x hxk
      have hd := hidP (fz_drop hxk)
      clear hxk
      by_cases h0 : x = 0
      · subst h0
        go_wp2_with fail
        go_round
        case rel => exact ⟨k + 1, by omega, by go_num, by show _ = _; rw [← hf.out, hd.out, if_pos rfl]⟩
        case measure => simp [intOf]; omega
      · go_wp2_with fail
        go_ret
        exact ⟨fin.out _ (by rw [← hf.out, hd.out, if_neg h0]), rfl⟩
    · go_wp2_with fail
      go_ret
      exact ⟨fin.out _ (by rw [← hf.out, List.drop_eq_nil_of_le (by have := hnH.out; omega)]; rfl), rfl⟩
/-- Which is ahead: by the first two that differ. -/
theorem sg_neg (a b : Int) : (sg a b < 0 ↔ a < b) ∧ (sg a b = 0 ↔ a = b) := by
  unfold sg
  split
  · exact ⟨⟨fun _ => ‹_›, fun _ => (by decide)⟩, ⟨fun h => (by cases h), fun h => (by omega)⟩⟩
  · split
    · exact ⟨⟨fun h => (by cases h), fun h => (by omega)⟩, ⟨fun h => (by cases h), fun h => (by omega)⟩⟩
    · exact ⟨⟨fun h => (by cases h), fun h => (by omega)⟩, ⟨fun _ => (by omega), fun _ => rfl⟩⟩
theorem sgS_neg {a b : ByteArray} (ha : a.toList.length ≤ 300) (hb : b.toList.length ≤ 300) : (sgS a b < 0 ↔ Op.bytesLess a.toList b.toList = true) ∧ (sgS a b = 0 ↔ a = b) := by
  have e1 := encU_less ha hb
  unfold sgS
  split
  · next h =>
    refine ⟨⟨fun _ => h, fun _ => (by decide)⟩, ⟨fun z => (by cases z), fun z => ?_⟩⟩
    have := e1.1.2 h
    have := e1.2.2 z
    omega
  · next h =>
    split
    · next h' => exact ⟨⟨fun z => (by cases z), fun z => absurd z h⟩, ⟨fun _ => ba_ext (by simpa using h'), fun _ => rfl⟩⟩
    · next h' => exact ⟨⟨fun z => (by cases z), fun z => absurd z h⟩, ⟨fun z => (by cases z), fun z => absurd (by rw [z]; simp) h'⟩⟩
theorem ahead_W (a b : Wt) : decide (fz [sg a.k b.k, sg a.n b.n] < 0) = decide (keyW a < keyW b) := by
  have h1 := sg_neg a.k b.k
  have h2 := sg_neg a.n b.n
  have h := keyW_less a b
  rw [Bool.eq_iff_iff, decide_eq_true_iff, decide_eq_true_iff, h]
  simp only [fz]
  split
  · next e =>
    have ek := h1.2.1 e
    split
    · next e2 =>
      have := h2.2.1 e2
      exact ⟨fun z => by omega, fun z => by omega⟩
    · rw [h2.1]
      exact ⟨fun z => .inr ⟨ek, z⟩, fun z => by omega⟩
  · next e =>
    have ne : ¬ a.k = b.k := fun z => e (h1.2.2 z)
    rw [h1.1]
    exact ⟨.inl, fun z => by omega⟩
theorem ahead_D (a b : Du) : decide (fz [sg a.t b.t, sgS a.u b.u, sgS a.w b.w] < 0) = decide (keyD a < keyD b) := by
  have h1 := sg_neg a.t b.t
  have h2 := sgS_neg a.hu b.hu
  have h3 := sgS_neg a.hw b.hw
  have h := keyD_less a b
  rw [Bool.eq_iff_iff, decide_eq_true_iff, decide_eq_true_iff, h]
  simp only [fz]
  split
  · next e =>
    have et := h1.2.1 e
    have nt : ¬ a.t < b.t := by omega
    split
    · next e2 =>
      have eu := h2.2.1 e2
      have nu : ¬ Op.bytesLess a.u.toList b.u.toList = true := fun z => by have := h2.1.2 z; omega
      split
      · next e3 =>
        have nw : ¬ Op.bytesLess a.w.toList b.w.toList = true := fun z => by have := h3.1.2 z; omega
        refine ⟨fun z => absurd z (by decide), fun z => ?_⟩
        rcases z with z | ⟨_, z | ⟨_, z⟩⟩
        · exact absurd z nt
        · exact absurd z nu
        · exact absurd z nw
      · rw [h3.1]
        refine ⟨fun z => .inr ⟨et, .inr ⟨eu, z⟩⟩, fun z => ?_⟩
        rcases z with z | ⟨_, z | ⟨_, z⟩⟩
        · exact absurd z nt
        · exact absurd z nu
        · exact z
    · next e2 =>
      have nu : ¬ a.u = b.u := fun z => e2 (h2.2.2 z)
      rw [h2.1]
      refine ⟨fun z => .inr ⟨et, .inl z⟩, fun z => ?_⟩
      rcases z with z | ⟨_, z | ⟨z, _⟩⟩
      · exact absurd z nt
      · exact z
      · exact absurd z nu
  · next e =>
    have ne : ¬ a.t = b.t := fun z => e (h1.2.2 z)
    rw [h1.1]
    refine ⟨.inl, fun z => ?_⟩
    rcases z with z | ⟨z, _⟩
    · exact z
    · exact absurd z ne
end Go.Proofs.YtjcdjkfnmobhkaaGreat
/- The two orders of a loop. -/
namespace Go.Proofs.YtjcdjkfnmobhkaaGreat
open Go.RowKit Go.Shelf Go.Lib
attribute [local go_sem] Oper.semAt_some
set_option maxRecDepth 100000 in
set_option maxHeartbeats 4000000 in
theorem earlier_any (a b : Wt) (w : World) : Calls Tryz.prog 31 #[.agg #[.int .i64 a.k, .int .i64 a.p, .int .i64 a.s, .string a.u, .string a.x, .int .i64 a.n], .agg #[.int .i64 b.k, .int .i64 b.p, .int .i64 b.s, .string b.u, .string b.x, .int .i64 b.n]] w fun e w' => e = .returned (.bool (decide (keyW a < keyW b))) ∧ Below w.heap.size w w' := by
  obtain ⟨n, hn⟩ : ∃ n, w.heap.size = n := ⟨_, rfl⟩
  obtain ⟨W0, hW0⟩ : ∃ W0, (w.alloc (.cells #[.int .i64 a.k, .int .i64 a.p, .int .i64 a.s, .string a.u, .string a.x, .int .i64 a.n] 77)).alloc (.cells #[.int .i64 b.k, .int .i64 b.p, .int .i64 b.s, .string b.u, .string b.x, .int .i64 b.n] 77) = W0 := ⟨_, rfl⟩
  have b0 : Below w.heap.size w W0 := by rw [← hW0]; exact ((Below.refl _ _).alloc (Nat.le_refl _) _).alloc (by simp) _
  have s0 : W0.heap.size = n + 2 := by rw [← hW0]; simp [hn]
  have ka : ∀ j u, #[.int .i64 a.k, .int .i64 a.p, .int .i64 a.s, .string a.u, .string a.x, .int .i64 a.n][j]? = some u → W0.cell? ⟨n, j, none⟩ = some u := fun j u hj => by rw [← hW0]; exact (Mv.alloc (fun _ => False) _ _).cell (fun h => h) (cell_at hn hj)
  have kb : ∀ j u, #[.int .i64 b.k, .int .i64 b.p, .int .i64 b.s, .string b.u, .string b.x, .int .i64 b.n][j]? = some u → W0.cell? ⟨n + 1, j, none⟩ = some u := fun j u hj => by rw [← hW0]; exact cell_at (by simp [hn]) hj
  have hS : (W0.drew.cell? ⟨n, 0, none⟩ = some (.int .i64 a.k) ∧ W0.drew.cell? ⟨n, 5, none⟩ = some (.int .i64 a.n)) ∧ (W0.drew.cell? ⟨(n + 1), 0, none⟩ = some (.int .i64 b.k) ∧ W0.drew.cell? ⟨(n + 1), 5, none⟩ = some (.int .i64 b.n)) := ⟨⟨ka 0 _ rfl, ka 5 _ rfl⟩, ⟨kb 0 _ rfl, kb 5 _ rfl⟩⟩
  obtain ⟨r0, hr0⟩ : ∃ r, sg a.k b.k = r := ⟨_, rfl⟩
  obtain ⟨r1, hr1⟩ : ∃ r, sg a.n b.n = r := ⟨_, rfl⟩
  obtain ⟨r, hr⟩ : ∃ r, fz [r0, r1] = r := ⟨_, rfl⟩
  have fin : Hid (Ending.returned (.bool (decide (r < 0))) = .returned (.bool (decide (keyW a < keyW b)))) := by
    show _ = _
    rw [← ahead_W a b, ← hr, ← hr0, ← hr1]
  obtain ⟨A, hA⟩ : ∃ A, W0.drew.alloc (.cells #[.int .i64 r0, .int .i64 r1] 3) = A := ⟨_, rfl⟩
  have bA : Below w.heap.size w A := by rw [← hA]; exact b0.drew.alloc (by have := b0.size; simpa using this) _
  have hS1 : (A.cell? ⟨n, 0, none⟩ = some (.int .i64 a.k) ∧ A.cell? ⟨n, 5, none⟩ = some (.int .i64 a.n)) ∧ (A.cell? ⟨(n + 1), 0, none⟩ = some (.int .i64 b.k) ∧ A.cell? ⟨(n + 1), 5, none⟩ = some (.int .i64 b.n)) := by
    have f : ∀ {k j : Nat} {v : Value}, W0.drew.cell? ⟨k, j, none⟩ = some v → A.cell? ⟨k, j, none⟩ = some v := fun {k j v} c => by rw [← hA]; exact (Mv.alloc (fun _ => False) _ _).cell (fun h => h) c
    exact ⟨⟨f hS.1.1, f hS.1.2⟩, ⟨f hS.2.1, f hS.2.2⟩⟩
  have hC0 : Hid (∀ W, Calls Tryz.prog 48 #[.int .i64 a.k, .int .i64 b.k] W fun e w' => e = .returned (.int .i64 r0) ∧ w' = W) := fun W => by rw [← hr0]; exact cmpI _ _ W
  have hC1 : Hid (∀ W, Calls Tryz.prog 48 #[.int .i64 a.n, .int .i64 b.n] W fun e w' => e = .returned (.int .i64 r1) ∧ w' = W) := fun W => by rw [← hr1]; exact cmpI _ _ W
  have hO : Hid (Calls Tryz.prog 47 #[.slice (some ⟨W0.heap.size, 0, none⟩) 2 2] A fun e w' => e = .returned (.int .i64 r) ∧ w' = A) := by
    rw [← hr]
    refine or_any [r0, r1] W0.heap.size 2 A (fun j x hj => ?_) (by simp)
    rw [← hA]
    have hj' : #[Value.int .i64 r0, Value.int .i64 r1][j]? = some (.int .i64 x) := by
      match j, hj with
      | 0, hj => simp at hj; subst hj; rfl
      | 1, hj => simp at hj; subst hj; rfl
      | j + 2, hj => simp at hj
    exact cell_at (by simp) hj'
  clear hr0 hr1 hr s0 ka kb
  have bAH := hidP bA
  clear bA b0
  go_enter Tryz.func31, Tryz.ntmps31
  go_wp2_with (rw [hW0])
  refine Zs.region (S := fun W => (W.cell? ⟨n, 0, none⟩ = some (.int .i64 a.k) ∧ W.cell? ⟨n, 5, none⟩ = some (.int .i64 a.n)) ∧ (W.cell? ⟨(n + 1), 0, none⟩ = some (.int .i64 b.k) ∧ W.cell? ⟨(n + 1), 5, none⟩ = some (.int .i64 b.n))) 15 (by kernel_rfl) ?_
  refine Zs.pure (i := 0) (oi := ⟨some 5, _, _, _, _, _⟩) (v := ?v0) rfl (by kernel_rfl) (by kernel_rfl) (by kernel_rfl) (by decide) (fun _ _ _ h => h) (Or.inl ⟨by rfl, ?hy0⟩) hS ?_
  case hy0 => (intro w hSw; (try dsimp only at hSw); go_simp; try with_reducible rfl)
  simp only [Act.put, List.setIfInBounds_toArray, List.set_cons_zero, List.set_cons_succ]
  refine Zs.pure (i := 1) (oi := ⟨some 6, _, _, _, _, _⟩) (v := ?v1) rfl (by kernel_rfl) (by kernel_rfl) (by kernel_rfl) (by decide) (fun _ _ _ h => h) (Or.inl ⟨by rfl, ?hy1⟩) hS ?_
  case hy1 => (intro w hSw; (try dsimp only at hSw); go_simp; try with_reducible rfl)
  simp only [Act.put, List.setIfInBounds_toArray, List.set_cons_zero, List.set_cons_succ]
  refine Zs.take (i := 2) (oi := ⟨some 7, _, _, _, _, _⟩) (v := .int .i64 a.k) rfl (by kernel_rfl) (by kernel_rfl) (by kernel_rfl) (by decide) (by kernel_rfl) (by kernel_rfl) (fun _ _ _ h => h) (Or.inl ⟨by rfl, ?hy2⟩) hS ?_
  case hy2 => (intro w hSw; (try dsimp only at hSw); go_simp; try with_reducible rfl)
  simp only [Act.put, List.setIfInBounds_toArray, List.set_cons_zero, List.set_cons_succ]
  refine Zs.pure (i := 3) (oi := ⟨some 8, _, _, _, _, _⟩) (v := ?v3) rfl (by kernel_rfl) (by kernel_rfl) (by kernel_rfl) (by decide) (fun _ _ _ h => h) (Or.inl ⟨by rfl, ?hy3⟩) hS ?_
  case hy3 => (intro w hSw; (try dsimp only at hSw); go_simp; try with_reducible rfl)
  simp only [Act.put, List.setIfInBounds_toArray, List.set_cons_zero, List.set_cons_succ]
  refine Zs.pure (i := 4) (oi := ⟨some 9, _, _, _, _, _⟩) (v := ?v4) rfl (by kernel_rfl) (by kernel_rfl) (by kernel_rfl) (by decide) (fun _ _ _ h => h) (Or.inl ⟨by rfl, ?hy4⟩) hS ?_
  case hy4 => (intro w hSw; (try dsimp only at hSw); go_simp; try with_reducible rfl)
  simp only [Act.put, List.setIfInBounds_toArray, List.set_cons_zero, List.set_cons_succ]
  refine Zs.take (i := 5) (oi := ⟨some 10, _, _, _, _, _⟩) (v := .int .i64 b.k) rfl (by kernel_rfl) (by kernel_rfl) (by kernel_rfl) (by decide) (by kernel_rfl) (by kernel_rfl) (fun _ _ _ h => h) (Or.inl ⟨by rfl, ?hy5⟩) hS ?_
  case hy5 => (intro w hSw; (try dsimp only at hSw); go_simp; try with_reducible rfl)
  simp only [Act.put, List.setIfInBounds_toArray, List.set_cons_zero, List.set_cons_succ]
  refine Zs.pure (i := 7) (oi := ⟨some 12, _, _, _, _, _⟩) (v := ?v7) rfl (by kernel_rfl) (by kernel_rfl) (by kernel_rfl) (by decide) (fun _ _ _ h => h) (Or.inl ⟨by rfl, ?hy7⟩) hS ?_
  case hy7 => (intro w hSw; (try dsimp only at hSw); go_simp; try with_reducible rfl)
  simp only [Act.put, List.setIfInBounds_toArray, List.set_cons_zero, List.set_cons_succ]
  refine Zs.take (i := 8) (oi := ⟨some 13, _, _, _, _, _⟩) (v := .int .i64 a.n) rfl (by kernel_rfl) (by kernel_rfl) (by kernel_rfl) (by decide) (by kernel_rfl) (by kernel_rfl) (fun _ _ _ h => h) (Or.inl ⟨by rfl, ?hy8⟩) hS ?_
  case hy8 => (intro w hSw; (try dsimp only at hSw); go_simp; try with_reducible rfl)
  simp only [Act.put, List.setIfInBounds_toArray, List.set_cons_zero, List.set_cons_succ]
  refine Zs.pure (i := 9) (oi := ⟨some 14, _, _, _, _, _⟩) (v := ?v9) rfl (by kernel_rfl) (by kernel_rfl) (by kernel_rfl) (by decide) (fun _ _ _ h => h) (Or.inl ⟨by rfl, ?hy9⟩) hS ?_
  case hy9 => (intro w hSw; (try dsimp only at hSw); go_simp; try with_reducible rfl)
  simp only [Act.put, List.setIfInBounds_toArray, List.set_cons_zero, List.set_cons_succ]
  refine Zs.take (i := 10) (oi := ⟨some 15, _, _, _, _, _⟩) (v := .int .i64 b.n) rfl (by kernel_rfl) (by kernel_rfl) (by kernel_rfl) (by decide) (by kernel_rfl) (by kernel_rfl) (fun _ _ _ h => h) (Or.inl ⟨by rfl, ?hy10⟩) hS ?_
  case hy10 => (intro w hSw; (try dsimp only at hSw); go_simp; try with_reducible rfl)
  simp only [Act.put, List.setIfInBounds_toArray, List.set_cons_zero, List.set_cons_succ]
  refine Zs.one (i := 6) (oi := ⟨some 11, _, _, _, _, _⟩) (by kernel_rfl) rfl (fun K hK => ?_)
  go_simp
  refine (hC0.out _).mono ?_
  rintro e V1 ⟨rfl, rfl⟩
  go_wp2_with fail
  refine hK.out _ _ (fun _ => hS) ?_
  clear hK K
  try simp only [Act.put, List.setIfInBounds_toArray, List.set_cons_zero, List.set_cons_succ]
  refine Zs.one (i := 11) (oi := ⟨some 16, _, _, _, _, _⟩) (by kernel_rfl) rfl (fun K hK => ?_)
  go_simp
  refine (hC1.out _).mono ?_
  rintro e V1 ⟨rfl, rfl⟩
  go_wp2_with fail
  refine hK.out _ _ (fun _ => hS) ?_
  clear hK K
  try simp only [Act.put, List.setIfInBounds_toArray, List.set_cons_zero, List.set_cons_succ]
  refine Zs.one (i := 12) (oi := ⟨some 17, _, _, _, _, _⟩) (by kernel_rfl) rfl (fun K hK => ?_)
  go_simp
  refine hK.out _ _ (fun _ => hS1) ?_
  clear hK K
  try simp only [Act.put, List.setIfInBounds_toArray, List.set_cons_zero, List.set_cons_succ]
  refine Zs.one (i := 13) (oi := ⟨some 18, _, _, _, _, _⟩) (by kernel_rfl) rfl (fun K hK => ?_)
  go_simp
  refine hO.out.mono ?_
  rintro e V1 ⟨rfl, rfl⟩
  go_wp2_with fail
  refine hK.out _ _ (fun _ => hS1) ?_
  clear hK K
  try simp only [Act.put, List.setIfInBounds_toArray, List.set_cons_zero, List.set_cons_succ]
  refine Zs.pure (i := 14) (oi := ⟨some 19, _, _, _, _, _⟩) (v := ?v14) rfl (by kernel_rfl) (by kernel_rfl) (by kernel_rfl) (by decide) (fun _ _ _ h => h) (Or.inl ⟨by rfl, ?hy14⟩) hS1 ?_
  case hy14 => (intro w hSw; (try dsimp only at hSw); go_simp; try with_reducible rfl)
  simp only [Act.put, List.setIfInBounds_toArray, List.set_cons_zero, List.set_cons_succ]
  refine Zs.one (i := 15) (oi := ⟨some 4, _, _, _, _, _⟩) (by kernel_rfl) rfl (fun K hK => ?_)
  go_simp
  refine hK.out _ _ (fun q => absurd q (by decide)) ?_
  clear hK K
  try simp only [Act.put, List.setIfInBounds_toArray, List.set_cons_zero, List.set_cons_succ]
  refine Zs.done (by kernel_rfl) ?_ _
  go_wp2_with fail
  go_ret
  exact ⟨fin.out, bAH.out⟩
set_option maxRecDepth 100000 in
set_option maxHeartbeats 4000000 in
theorem sooner_any (a b : Du) (w : World) : Calls Tryz.prog 55 #[.agg #[.string a.u, .string a.w, .int .i64 a.t], .agg #[.string b.u, .string b.w, .int .i64 b.t]] w fun e w' => e = .returned (.bool (decide (keyD a < keyD b))) ∧ Below w.heap.size w w' := by
  obtain ⟨n, hn⟩ : ∃ n, w.heap.size = n := ⟨_, rfl⟩
  obtain ⟨W0, hW0⟩ : ∃ W0, (w.alloc (.cells #[.string a.u, .string a.w, .int .i64 a.t] 53)).alloc (.cells #[.string b.u, .string b.w, .int .i64 b.t] 53) = W0 := ⟨_, rfl⟩
  have b0 : Below w.heap.size w W0 := by rw [← hW0]; exact ((Below.refl _ _).alloc (Nat.le_refl _) _).alloc (by simp) _
  have s0 : W0.heap.size = n + 2 := by rw [← hW0]; simp [hn]
  have ka : ∀ j u, #[.string a.u, .string a.w, .int .i64 a.t][j]? = some u → W0.cell? ⟨n, j, none⟩ = some u := fun j u hj => by rw [← hW0]; exact (Mv.alloc (fun _ => False) _ _).cell (fun h => h) (cell_at hn hj)
  have kb : ∀ j u, #[.string b.u, .string b.w, .int .i64 b.t][j]? = some u → W0.cell? ⟨n + 1, j, none⟩ = some u := fun j u hj => by rw [← hW0]; exact cell_at (by simp [hn]) hj
  have hS : (W0.drew.cell? ⟨n, 2, none⟩ = some (.int .i64 a.t) ∧ W0.drew.cell? ⟨n, 0, none⟩ = some (.string a.u) ∧ W0.drew.cell? ⟨n, 1, none⟩ = some (.string a.w)) ∧ (W0.drew.cell? ⟨(n + 1), 2, none⟩ = some (.int .i64 b.t) ∧ W0.drew.cell? ⟨(n + 1), 0, none⟩ = some (.string b.u) ∧ W0.drew.cell? ⟨(n + 1), 1, none⟩ = some (.string b.w)) := ⟨⟨ka 2 _ rfl, ka 0 _ rfl, ka 1 _ rfl⟩, ⟨kb 2 _ rfl, kb 0 _ rfl, kb 1 _ rfl⟩⟩
  obtain ⟨r0, hr0⟩ : ∃ r, sg a.t b.t = r := ⟨_, rfl⟩
  obtain ⟨r1, hr1⟩ : ∃ r, sgS a.u b.u = r := ⟨_, rfl⟩
  obtain ⟨r2, hr2⟩ : ∃ r, sgS a.w b.w = r := ⟨_, rfl⟩
  obtain ⟨r, hr⟩ : ∃ r, fz [r0, r1, r2] = r := ⟨_, rfl⟩
  have fin : Hid (Ending.returned (.bool (decide (r < 0))) = .returned (.bool (decide (keyD a < keyD b)))) := by
    show _ = _
    rw [← ahead_D a b, ← hr, ← hr0, ← hr1, ← hr2]
  obtain ⟨A, hA⟩ : ∃ A, W0.drew.alloc (.cells #[.int .i64 r0, .int .i64 r1, .int .i64 r2] 3) = A := ⟨_, rfl⟩
  have bA : Below w.heap.size w A := by rw [← hA]; exact b0.drew.alloc (by have := b0.size; simpa using this) _
  have hS1 : (A.cell? ⟨n, 2, none⟩ = some (.int .i64 a.t) ∧ A.cell? ⟨n, 0, none⟩ = some (.string a.u) ∧ A.cell? ⟨n, 1, none⟩ = some (.string a.w)) ∧ (A.cell? ⟨(n + 1), 2, none⟩ = some (.int .i64 b.t) ∧ A.cell? ⟨(n + 1), 0, none⟩ = some (.string b.u) ∧ A.cell? ⟨(n + 1), 1, none⟩ = some (.string b.w)) := by
    have f : ∀ {k j : Nat} {v : Value}, W0.drew.cell? ⟨k, j, none⟩ = some v → A.cell? ⟨k, j, none⟩ = some v := fun {k j v} c => by rw [← hA]; exact (Mv.alloc (fun _ => False) _ _).cell (fun h => h) c
    exact ⟨⟨f hS.1.1, f hS.1.2.1, f hS.1.2.2⟩, ⟨f hS.2.1, f hS.2.2.1, f hS.2.2.2⟩⟩
  have hC0 : Hid (∀ W, Calls Tryz.prog 69 #[.int .i64 a.t, .int .i64 b.t] W fun e w' => e = .returned (.int .i64 r0) ∧ w' = W) := fun W => by rw [← hr0]; exact cmpL _ _ W
  have hC1 : Hid (∀ W, Calls Tryz.prog 70 #[.string a.u, .string b.u] W fun e w' => e = .returned (.int .i64 r1) ∧ w' = W) := fun W => by rw [← hr1]; exact cmpS _ _ W
  have hC2 : Hid (∀ W, Calls Tryz.prog 70 #[.string a.w, .string b.w] W fun e w' => e = .returned (.int .i64 r2) ∧ w' = W) := fun W => by rw [← hr2]; exact cmpS _ _ W
  have hO : Hid (Calls Tryz.prog 47 #[.slice (some ⟨W0.heap.size, 0, none⟩) 3 3] A fun e w' => e = .returned (.int .i64 r) ∧ w' = A) := by
    rw [← hr]
    refine or_any [r0, r1, r2] W0.heap.size 3 A (fun j x hj => ?_) (by simp)
    rw [← hA]
    have hj' : #[Value.int .i64 r0, Value.int .i64 r1, Value.int .i64 r2][j]? = some (.int .i64 x) := by
      match j, hj with
      | 0, hj => simp at hj; subst hj; rfl
      | 1, hj => simp at hj; subst hj; rfl
      | 2, hj => simp at hj; subst hj; rfl
      | j + 3, hj => simp at hj
    exact cell_at (by simp) hj'
  clear hr0 hr1 hr2 hr s0 ka kb
  have bAH := hidP bA
  clear bA b0
  go_enter Tryz.func55, Tryz.ntmps55
  go_wp2_with (rw [hW0])
  refine Zs.region (S := fun W => (W.cell? ⟨n, 2, none⟩ = some (.int .i64 a.t) ∧ W.cell? ⟨n, 0, none⟩ = some (.string a.u) ∧ W.cell? ⟨n, 1, none⟩ = some (.string a.w)) ∧ (W.cell? ⟨(n + 1), 2, none⟩ = some (.int .i64 b.t) ∧ W.cell? ⟨(n + 1), 0, none⟩ = some (.string b.u) ∧ W.cell? ⟨(n + 1), 1, none⟩ = some (.string b.w))) 18 (by kernel_rfl) ?_
  refine Zs.pure (i := 0) (oi := ⟨some 5, _, _, _, _, _⟩) (v := ?v0) rfl (by kernel_rfl) (by kernel_rfl) (by kernel_rfl) (by decide) (fun _ _ _ h => h) (Or.inl ⟨by rfl, ?hy0⟩) hS ?_
  case hy0 => (intro w hSw; (try dsimp only at hSw); go_simp; try with_reducible rfl)
  simp only [Act.put, List.setIfInBounds_toArray, List.set_cons_zero, List.set_cons_succ]
  refine Zs.take (i := 1) (oi := ⟨some 6, _, _, _, _, _⟩) (v := .int .i64 a.t) rfl (by kernel_rfl) (by kernel_rfl) (by kernel_rfl) (by decide) (by kernel_rfl) (by kernel_rfl) (fun _ _ _ h => h) (Or.inl ⟨by rfl, ?hy1⟩) hS ?_
  case hy1 => (intro w hSw; (try dsimp only at hSw); go_simp; try with_reducible rfl)
  simp only [Act.put, List.setIfInBounds_toArray, List.set_cons_zero, List.set_cons_succ]
  refine Zs.pure (i := 2) (oi := ⟨some 7, _, _, _, _, _⟩) (v := ?v2) rfl (by kernel_rfl) (by kernel_rfl) (by kernel_rfl) (by decide) (fun _ _ _ h => h) (Or.inl ⟨by rfl, ?hy2⟩) hS ?_
  case hy2 => (intro w hSw; (try dsimp only at hSw); go_simp; try with_reducible rfl)
  simp only [Act.put, List.setIfInBounds_toArray, List.set_cons_zero, List.set_cons_succ]
  refine Zs.take (i := 3) (oi := ⟨some 8, _, _, _, _, _⟩) (v := .int .i64 b.t) rfl (by kernel_rfl) (by kernel_rfl) (by kernel_rfl) (by decide) (by kernel_rfl) (by kernel_rfl) (fun _ _ _ h => h) (Or.inl ⟨by rfl, ?hy3⟩) hS ?_
  case hy3 => (intro w hSw; (try dsimp only at hSw); go_simp; try with_reducible rfl)
  simp only [Act.put, List.setIfInBounds_toArray, List.set_cons_zero, List.set_cons_succ]
  refine Zs.pure (i := 5) (oi := ⟨some 10, _, _, _, _, _⟩) (v := ?v5) rfl (by kernel_rfl) (by kernel_rfl) (by kernel_rfl) (by decide) (fun _ _ _ h => h) (Or.inl ⟨by rfl, ?hy5⟩) hS ?_
  case hy5 => (intro w hSw; (try dsimp only at hSw); go_simp; try with_reducible rfl)
  simp only [Act.put, List.setIfInBounds_toArray, List.set_cons_zero, List.set_cons_succ]
  refine Zs.take (i := 6) (oi := ⟨some 11, _, _, _, _, _⟩) (v := .string a.u) rfl (by kernel_rfl) (by kernel_rfl) (by kernel_rfl) (by decide) (by kernel_rfl) (by kernel_rfl) (fun _ _ _ h => h) (Or.inl ⟨by rfl, ?hy6⟩) hS ?_
  case hy6 => (intro w hSw; (try dsimp only at hSw); go_simp; try with_reducible rfl)
  simp only [Act.put, List.setIfInBounds_toArray, List.set_cons_zero, List.set_cons_succ]
  refine Zs.pure (i := 7) (oi := ⟨some 12, _, _, _, _, _⟩) (v := ?v7) rfl (by kernel_rfl) (by kernel_rfl) (by kernel_rfl) (by decide) (fun _ _ _ h => h) (Or.inl ⟨by rfl, ?hy7⟩) hS ?_
  case hy7 => (intro w hSw; (try dsimp only at hSw); go_simp; try with_reducible rfl)
  simp only [Act.put, List.setIfInBounds_toArray, List.set_cons_zero, List.set_cons_succ]
  refine Zs.take (i := 8) (oi := ⟨some 13, _, _, _, _, _⟩) (v := .string b.u) rfl (by kernel_rfl) (by kernel_rfl) (by kernel_rfl) (by decide) (by kernel_rfl) (by kernel_rfl) (fun _ _ _ h => h) (Or.inl ⟨by rfl, ?hy8⟩) hS ?_
  case hy8 => (intro w hSw; (try dsimp only at hSw); go_simp; try with_reducible rfl)
  simp only [Act.put, List.setIfInBounds_toArray, List.set_cons_zero, List.set_cons_succ]
  refine Zs.pure (i := 10) (oi := ⟨some 15, _, _, _, _, _⟩) (v := ?v10) rfl (by kernel_rfl) (by kernel_rfl) (by kernel_rfl) (by decide) (fun _ _ _ h => h) (Or.inl ⟨by rfl, ?hy10⟩) hS ?_
  case hy10 => (intro w hSw; (try dsimp only at hSw); go_simp; try with_reducible rfl)
  simp only [Act.put, List.setIfInBounds_toArray, List.set_cons_zero, List.set_cons_succ]
  refine Zs.take (i := 11) (oi := ⟨some 16, _, _, _, _, _⟩) (v := .string a.w) rfl (by kernel_rfl) (by kernel_rfl) (by kernel_rfl) (by decide) (by kernel_rfl) (by kernel_rfl) (fun _ _ _ h => h) (Or.inl ⟨by rfl, ?hy11⟩) hS ?_
  case hy11 => (intro w hSw; (try dsimp only at hSw); go_simp; try with_reducible rfl)
  simp only [Act.put, List.setIfInBounds_toArray, List.set_cons_zero, List.set_cons_succ]
  refine Zs.pure (i := 12) (oi := ⟨some 17, _, _, _, _, _⟩) (v := ?v12) rfl (by kernel_rfl) (by kernel_rfl) (by kernel_rfl) (by decide) (fun _ _ _ h => h) (Or.inl ⟨by rfl, ?hy12⟩) hS ?_
  case hy12 => (intro w hSw; (try dsimp only at hSw); go_simp; try with_reducible rfl)
  simp only [Act.put, List.setIfInBounds_toArray, List.set_cons_zero, List.set_cons_succ]
  refine Zs.take (i := 13) (oi := ⟨some 18, _, _, _, _, _⟩) (v := .string b.w) rfl (by kernel_rfl) (by kernel_rfl) (by kernel_rfl) (by decide) (by kernel_rfl) (by kernel_rfl) (fun _ _ _ h => h) (Or.inl ⟨by rfl, ?hy13⟩) hS ?_
  case hy13 => (intro w hSw; (try dsimp only at hSw); go_simp; try with_reducible rfl)
  simp only [Act.put, List.setIfInBounds_toArray, List.set_cons_zero, List.set_cons_succ]
  refine Zs.one (i := 4) (oi := ⟨some 9, _, _, _, _, _⟩) (by kernel_rfl) rfl (fun K hK => ?_)
  go_simp
  refine (hC0.out _).mono ?_
  rintro e V1 ⟨rfl, rfl⟩
  go_wp2_with fail
  refine hK.out _ _ (fun _ => hS) ?_
  clear hK K
  try simp only [Act.put, List.setIfInBounds_toArray, List.set_cons_zero, List.set_cons_succ]
  refine Zs.one (i := 9) (oi := ⟨some 14, _, _, _, _, _⟩) (by kernel_rfl) rfl (fun K hK => ?_)
  go_simp
  refine (hC1.out _).mono ?_
  rintro e V1 ⟨rfl, rfl⟩
  go_wp2_with fail
  refine hK.out _ _ (fun _ => hS) ?_
  clear hK K
  try simp only [Act.put, List.setIfInBounds_toArray, List.set_cons_zero, List.set_cons_succ]
  refine Zs.one (i := 14) (oi := ⟨some 19, _, _, _, _, _⟩) (by kernel_rfl) rfl (fun K hK => ?_)
  go_simp
  refine (hC2.out _).mono ?_
  rintro e V1 ⟨rfl, rfl⟩
  go_wp2_with fail
  refine hK.out _ _ (fun _ => hS) ?_
  clear hK K
  try simp only [Act.put, List.setIfInBounds_toArray, List.set_cons_zero, List.set_cons_succ]
  refine Zs.one (i := 15) (oi := ⟨some 20, _, _, _, _, _⟩) (by kernel_rfl) rfl (fun K hK => ?_)
  go_simp
  refine hK.out _ _ (fun _ => hS1) ?_
  clear hK K
  try simp only [Act.put, List.setIfInBounds_toArray, List.set_cons_zero, List.set_cons_succ]
  refine Zs.one (i := 16) (oi := ⟨some 21, _, _, _, _, _⟩) (by kernel_rfl) rfl (fun K hK => ?_)
  go_simp
  refine hO.out.mono ?_
  rintro e V1 ⟨rfl, rfl⟩
  go_wp2_with fail
  refine hK.out _ _ (fun _ => hS1) ?_
  clear hK K
  try simp only [Act.put, List.setIfInBounds_toArray, List.set_cons_zero, List.set_cons_succ]
  refine Zs.pure (i := 17) (oi := ⟨some 22, _, _, _, _, _⟩) (v := ?v17) rfl (by kernel_rfl) (by kernel_rfl) (by kernel_rfl) (by decide) (fun _ _ _ h => h) (Or.inl ⟨by rfl, ?hy17⟩) hS1 ?_
  case hy17 => (intro w hSw; (try dsimp only at hSw); go_simp; try with_reducible rfl)
  simp only [Act.put, List.setIfInBounds_toArray, List.set_cons_zero, List.set_cons_succ]
  refine Zs.one (i := 18) (oi := ⟨some 4, _, _, _, _, _⟩) (by kernel_rfl) rfl (fun K hK => ?_)
  go_simp
  refine hK.out _ _ (fun q => absurd q (by decide)) ?_
  clear hK K
  try simp only [Act.put, List.setIfInBounds_toArray, List.set_cons_zero, List.set_cons_succ]
  refine Zs.done (by kernel_rfl) ?_ _
  go_wp2_with fail
  go_ret
  exact ⟨fin.out, bAH.out⟩
theorem egF (f : Nat) (hf : ∀ args w, (callFunc f args).run Tryz.prog w = .ok (.enter f args) w) : ∀ args w, (callFunc f args).run Tryz.prog w = .ok (.enter f args) w := hf
theorem bfW (X : Nat → Option Value) : Qw.Bf ⟨31, X, .func (.func 31) #[] #[]⟩ keyW := ⟨rfl, enters_of Tryz.func31 (by kernel_rfl) rfl, fun a b w => earlier_any a b w⟩
theorem bfD (X : Nat → Option Value) : Qd.Bf ⟨55, X, .func (.func 55) #[] #[]⟩ keyD := ⟨rfl, enters_of Tryz.func55 (by kernel_rfl) rfl, fun a b w => sooner_any a b w⟩
end Go.Proofs.YtjcdjkfnmobhkaaGreat
