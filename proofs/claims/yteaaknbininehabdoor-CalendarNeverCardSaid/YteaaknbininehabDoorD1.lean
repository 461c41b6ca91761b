/- The contract of package civil's Days. -/
import Derived.Test.YteaaknbininehabDoorM1
import Derived.Test.YteaaknbininehabDoorC3
import Derived.Deep.RegionHeld3
namespace Go.Proofs.YteaaknbininehabDoor
open Go.RowKit Go.Shelf
attribute [local go_sem] Oper.semAt_some
theorem i64w (x : Int) (h : 0 ≤ x) (h' : x ≤ 9223372036854775807) : IntKind.i64.wrap x = x := by
  show (if (true && decide (x % 18446744073709551616 ≥ 9223372036854775808)) = true then x % 18446744073709551616 - 18446744073709551616 else x % 18446744073709551616) = x
  have e : x % 18446744073709551616 = x := Int.emod_eq_of_lt h (by omega)
  rw [e]
  simp
  omega
theorem cell_of_box_l {W : World} {B : Nat} {v : Value} {t : TypeId} (h : W.heap[B]? = some (.cells #[v] t (0, 0))) : W.cell? ⟨B, 0, none⟩ = some v ∧ W.frozen? ⟨B, 0, none⟩ = false := by
  constructor <;> simp [World.cell?, World.frozen?, h]
theorem cell_new_l (W : World) (v : Value) (t : TypeId) : (W.alloc (.cells #[v] t)).cell? ⟨W.heap.size, 0, none⟩ = some v ∧ (W.alloc (.cells #[v] t)).frozen? ⟨W.heap.size, 0, none⟩ = false := cell_of_box_l (World.alloc_heap_new W _)
theorem cell_alloc_l {W : World} {a : Addr} {v : Value} (o : Obj) (h : W.cell? a = some v) : (W.alloc o).cell? a = some v := cell_kept h (World.grownBy_alloc W o none) (fun r e => by cases e)
theorem frozen_alloc_l {W : World} {a : Addr} {v : Value} (o : Obj) (h : W.cell? a = some v) (hf : W.frozen? a = false) : (W.alloc o).frozen? a = false := (frozen_kept h (World.grownBy_alloc W o none) (fun r e => by cases e)).trans hf
/-- The lengths of the months that have come, together. -/
def sumL (y : Int) (pre : List (Fin 12)) : Int := (pre.map fun x => Civ.dim y ((x.val : Int) + 1)).sum
theorem sumL_snoc (y : Int) (pre : List (Fin 12)) (x : Fin 12) : sumL y (pre ++ [x]) = sumL y pre + Civ.dim y ((x.val : Int) + 1) := by simp [sumL]
theorem sumL_bd (y : Int) (pre : List (Fin 12)) : 0 ≤ sumL y pre ∧ sumL y pre ≤ 31 * pre.length := by
  induction pre with
  | nil => simp [sumL]
  | cons x r ih =>
    have h := Civ.dim_bd y ((x.val : Int) + 1)
    have e : sumL y (x :: r) = Civ.dim y ((x.val : Int) + 1) + sumL y r := by simp [sumL]
    rw [e, List.length_cons]; omega
theorem sumL_take (y : Int) : ∀ k, k ≤ 12 → sumL y ((List.finRange 12).take k) = Civ.cum y k
  | 0, _ => rfl
  | k + 1, h => by rw [fin_take k h, sumL_snoc, sumL_take y k (by omega)]; rfl
theorem pre_last {k : Nat} (hk : k ≤ 12) {p : List (Fin 12)} {x : Fin 12} (h : (List.finRange 12).take k = p ++ [x]) : p = (List.finRange 12).take x.val := by
  cases k with
  | zero => simp at h
  | succ k =>
    rw [fin_take k hk] at h
    obtain ⟨h1, h2⟩ := List.append_inj' h rfl
    cases h2
    exact h1.symm
set_option maxRecDepth 100000 in
set_option maxHeartbeats 2000000 in
theorem days_yes (y m d : Int) (w : World) (hT : LenIn w) (hv : Civ.vldB y m d = true) :
    Calls Tryd.prog 21 #[.agg #[.int .i64 y, .int .i64 m, .int .i64 d]] w fun e w' => e = .returned (.tuple #[.int .i64 (Civ.num y m d), .int .i64 0]) ∧ Below w.heap.size w w' := by
  obtain ⟨a, b, c, e, f, g⟩ := Civ.vldB_iff.1 hv
  have dm := Civ.dim_bd y m
  have db := Civ.dby_bd (y := y) (by omega) (by omega)
  have hT1 := hT.alloc (.cells #[.int .i64 y, .int .i64 m, .int .i64 d] 35)
  refine (callsIn_wide (n := 5)).1 ?_
  refine callsIn_of_wp_marks Tryd.func21 rfl trivial ?_ rfl
  simp only [Tryd.ntmps21, List.size_toArray, List.length_cons, List.length_nil, Nat.reduceAdd, Nat.reduceSub, Array.replicate_succ, Array.replicate_zero, List.push_toArray, List.append_toArray, List.nil_append, List.cons_append]
  refine wpIn_wide.2 ?_
  go_wp2_with fail
  refine (is_any y m d _ hT1).mono ?_
  rintro e w1 ⟨rfl, hb1⟩
  have hz1 := hb1.size
  simp at hz1
  have hz2 : w.heap.size < w1.heap.size := by omega
  have v1 : IntKind.i64.wrap (Civ.dby y + d) = Civ.dby y + d := i64w _ (by omega) (by omega)
  have v2 : IntKind.i64.wrap (Civ.dby y + d - 1) = Civ.dby y + d - 1 := i64w _ (by omega) (by omega)
  have k0 : w1.cell? ⟨w.heap.size, 0, none⟩ = some (.int .i64 y) := by rw [hb1.cell (by simp)]; simp
  have k1 : w1.cell? ⟨w.heap.size, 1, none⟩ = some (.int .i64 m) := by rw [hb1.cell (by simp)]; simp
  have k2 : w1.cell? ⟨w.heap.size, 2, none⟩ = some (.int .i64 d) := by rw [hb1.cell (by simp)]; simp
  go_wp2_with fail
  go_region_held3 (fun w' => w'.cell? ⟨w.heap.size, 0, none⟩ = some (.int .i64 y) ∧ w'.cell? ⟨w.heap.size, 2, none⟩ = some (.int .i64 d))
    (first | assumption | (go_split_ands; refine ⟨?_, ?_⟩ <;> assumption) | go_keep)
    (first | (go_at_call 41; refine (ahead_any _ _ (by omega) (by omega)).mono ?_; rintro e w2 ⟨rfl, rfl⟩))
  go_split_ands
  go_wp2_with fail
  all_goals (refine (months_any _ _).mono ?_; rintro e w2 ⟨rfl, rfl⟩)
  all_goals go_wp2_with fail
  all_goals
    have hB0 : Below w.heap.size w (((w1.alloc (.cells #[.int .i64 (Civ.dby y + d - 1)] 3)).alloc (.cells #[.int .i64 y] 3)).drew) :=
      ((((((Below.refl _ w).alloc (Nat.le_refl _) _).trans (hb1.mono (by simp))).alloc (by omega) _).alloc (by simp; omega) _).drew)
    have hs : (((w1.alloc (.cells #[.int .i64 (Civ.dby y + d - 1)] 3)).alloc (.cells #[.int .i64 y] 3)).drew).heap.size = w1.heap.size + 2 := by simp
    have c1 : (((w1.alloc (.cells #[.int .i64 (Civ.dby y + d - 1)] 3)).alloc (.cells #[.int .i64 y] 3)).drew).cell? ⟨w.heap.size, 1, none⟩ = some (.int .i64 m) := by
      rw [World.cell?_drew, World.cell?_alloc_lt _ _ _ (by simp; omega), World.cell?_alloc_lt _ _ _ (by simp; omega)]; exact k1
    have c2 : (((w1.alloc (.cells #[.int .i64 (Civ.dby y + d - 1)] 3)).alloc (.cells #[.int .i64 y] 3)).drew).cell? ⟨w1.heap.size, 0, none⟩ = some (.int .i64 (Civ.dby y + d - 1)) := by
      rw [World.cell?_drew, World.cell?_alloc_lt _ _ _ (by simp)]; exact (cell_new_l _ _ _).1
    have f2 : (((w1.alloc (.cells #[.int .i64 (Civ.dby y + d - 1)] 3)).alloc (.cells #[.int .i64 y] 3)).drew).frozen? ⟨w1.heap.size, 0, none⟩ = false := by
      show ((w1.alloc (.cells #[.int .i64 (Civ.dby y + d - 1)] 3)).alloc (.cells #[.int .i64 y] 3)).frozen? ⟨w1.heap.size, 0, none⟩ = false
      exact frozen_alloc_l _ (cell_new_l _ _ _).1 (cell_new_l _ _ _).2
    have c3 : (((w1.alloc (.cells #[.int .i64 (Civ.dby y + d - 1)] 3)).alloc (.cells #[.int .i64 y] 3)).drew).cell? ⟨w1.heap.size + 1, 0, none⟩ = some (.int .i64 y) := by
      have := (cell_new_l (w1.alloc (.cells #[.int .i64 (Civ.dby y + d - 1)] 3)) (.int .i64 y) 3).1
      rw [World.size_alloc] at this
      rw [World.cell?_drew]; exact this
    revert hB0 hs c1 c2 f2 c3
    generalize ((w1.alloc (.cells #[.int .i64 (Civ.dby y + d - 1)] 3)).alloc (.cells #[.int .i64 y] 3)).drew = W0
    intro hB0 hs c1 c2 f2 c3
    have hT0 : LenIn W0 := hT.below hT.pos hB0
    have hpos := hT.pos
    clear k0 k1 k2 v1 v2 hb1 hT1
    refine (wpIn_wide (n := 5)).1 ?_
    refine wpIn_rangeFunc_ownF rfl (by omega) (gf := 65) (lb := #[.pointer (some ⟨w1.heap.size + 1, 0, none⟩)]) rfl trivial (enters_of Tryd.func65 (by kernel_rfl) rfl)
      (months_stops (5 - 1) (w1.heap.size + 1) y (by omega) (by omega) W0 hT0 (by omega) c3) KpM.trans (KpM.put (by omega) (by omega)) (Below.refl _ _) (fun _ => rfl)
      (fun pre W => ((∀ x ∈ pre, (x.val : Int) + 1 ≠ m) ∧ W.cell? ⟨w.heap.size, 1, none⟩ = some (.int .i64 m) ∧ W.cell? ⟨w1.heap.size, 0, none⟩ = some (.int .i64 (Civ.dby y + d - 1 + sumL y pre)) ∧ W.frozen? ⟨w1.heap.size, 0, none⟩ = false) ∧ Below w.heap.size w W)
      (fun c pre W => (c = .exit 0 ∧ ∃ p x, pre = p ++ [x] ∧ (x.val : Int) + 1 = m ∧ W.cell? ⟨w1.heap.size, 0, none⟩ = some (.int .i64 (Civ.dby y + d - 1 + sumL y p))) ∧ Below w.heap.size w W)
      (OwnFrom.and (Own.from (fun s A B row hs hg hr => ⟨hs.1, cell_kept hs.2.1 hg hr, cell_kept hs.2.2.1 hg hr, (frozen_kept hs.2.2.1 hg hr).trans hs.2.2.2⟩) _) (ownFrom_below (Nat.le_refl _) (by omega)))
      (fun c => OwnFrom.and (Own.from (fun s A B row hs hg hr => ⟨hs.1, by obtain ⟨p, x, e, hx, hc⟩ := hs.2; exact ⟨p, x, e, hx, cell_kept hc hg hr⟩⟩) _) (ownFrom_below (Nat.le_refl _) (by omega)))
      ⟨⟨by simp, c1, by simpa [sumL] using c2, f2⟩, hB0⟩
      (fun x => { tmps := #[.agg #[.int .i64 y, .int .i64 m, .int .i64 d], .pointer (some ⟨w.heap.size, 0, none⟩), .int .i64 0, .int .i64 0, .pointer (some ⟨w1.heap.size, 0, none⟩), .int .i64 ((x.val : Int) + 1), .int .i64 (Civ.dim y ((x.val : Int) + 1)), .agg #[.int .i64 y, .int .i64 m, .int .i64 d], .bool true, .bool false, .pointer (some ⟨w.heap.size, 0, none⟩), .int .i64 y, .int .i64 (Civ.dby y), .pointer (some ⟨w.heap.size, 2, none⟩), .int .i64 d, .int .i64 (Civ.dby y + d), .int .i64 (Civ.dby y + d - 1), .pointer (some ⟨w.heap.size, 0, none⟩), .int .i64 y, .func (.func 65) #[] #[.pointer (some ⟨w1.heap.size + 1, 0, none⟩)], .int .i64 ((x.val : Int) + 1), .int .i64 (Civ.dim y ((x.val : Int) + 1)), undef, undef, undef, undef, undef, undef, undef, undef], defers := [] }) ?assign ?body ?done ?stop
    case assign =>
      intro l x W K hK
      simp only [mEnc]
      gi_wp2
      exact hK
    case body =>
      rintro l pre x W ⟨⟨hp, hm1, hc, hf⟩, hB⟩ hlen
      have sb := sumL_bd y pre
      have xb := Civ.dim_bd y ((x.val : Int) + 1)
      by_cases hx : (x.val : Int) + 1 = m
      · have hx' : ((x.val : Int) + 1 == m) = true := by simpa using hx
        gi_wp2
        exact ⟨KeepsOthers.refl _, ⟨rfl, pre, x, rfl, hx, hc⟩, hB⟩
      · have hx' : ((x.val : Int) + 1 == m) = false := by simpa using hx
        gi_wp2
        exact ⟨KeepsOthers.setCell _ _ _, KpM.setCell W w1.heap.size 0 _ (by omega) (by omega), ⟨fun z hz => (List.mem_append.1 hz).elim (hp z) (fun e => by simp at e; rw [e]; exact hx), (World.cell?_setCell_other _ _ _ _ (by simp)).trans hm1, by rw [sumL_snoc, ← Int.add_assoc]; exact World.cell?_setCell_same' _ _ _ (by rw [hc]; rfl), by rw [World.frozen?_setCell]; exact hf⟩, hB.setCell (p := ⟨w1.heap.size, 0, none⟩) (by simp; omega) _⟩
    case done =>
      rintro D ys W hD rfl ⟨⟨hp, _⟩, hB⟩ hK
      exact absurd (show (((⟨(m - 1).toNat, by omega⟩ : Fin 12).val : Int) + 1 = m) by simp; omega) (hp _ (List.mem_finRange _))
    case stop =>
      rintro D c pre W hD ⟨k, hk, rfl⟩ ⟨⟨rfl, p, x, hpx, hx, hc⟩, hB⟩ hK
      refine (wpIn_wide (n := 5)).2 ?_
      have hnum : Civ.dby y + d - 1 + sumL y p = Civ.num y m d := by
        rw [pre_last hk hpx, sumL_take y _ (by omega)]
        unfold Civ.num
        rw [show (m - 1).toNat = x.val by omega]; omega
      rw [hnum] at hc
      go_wp2
      refine ⟨by simp, .inl ⟨_, _, rfl, run_takeDeferred hK, ?_⟩⟩
      exact ⟨_, results_tmp2 rfl _ _ _, rfl, hB.trans (belowK_b (w := w) (Nat.le_refl _) W D _ _ (by omega) hK rfl rfl)⟩
set_option maxRecDepth 100000 in
set_option maxHeartbeats 1000000 in
theorem days_no (y m d : Int) (w : World) (hT : LenIn w) (hv : Civ.vldB y m d = false) :
    Calls Tryd.prog 21 #[.agg #[.int .i64 y, .int .i64 m, .int .i64 d]] w fun e w' => e = .returned (.tuple #[.int .i64 0, .int .i64 20]) ∧ Below w.heap.size w w' := by
  have hT1 := hT.alloc (.cells #[.int .i64 y, .int .i64 m, .int .i64 d] 35)
  go_enter Tryd.func21, Tryd.ntmps21
  go_wp2_with fail
  refine (is_any y m d _ hT1).mono ?_
  rintro e w1 ⟨rfl, hb1⟩
  go_wp2_with fail
  go_ret2
  exact ⟨rfl, ((Below.refl _ w).alloc (Nat.le_refl _) _).trans (hb1.mono (by simp))⟩
def daysV (y m d : Int) : Int := if Civ.vldB y m d = true then Civ.num y m d else 0
def daysE (y m d : Int) : Int := if Civ.vldB y m d = true then 0 else 20
theorem days_any (y m d : Int) (w : World) (hT : LenIn w) :
    Calls Tryd.prog 21 #[.agg #[.int .i64 y, .int .i64 m, .int .i64 d]] w fun e w' => e = .returned (.tuple #[.int .i64 (daysV y m d), .int .i64 (daysE y m d)]) ∧ Below w.heap.size w w' := by
  unfold daysV daysE
  cases hv : Civ.vldB y m d
  · exact days_no y m d w hT hv
  · exact days_yes y m d w hT hv
end Go.Proofs.YteaaknbininehabDoor
