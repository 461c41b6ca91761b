/- The contract of package civil's Date. -/
import Derived.Test.YteaaknbininehabDoorD1
namespace Go.Proofs.YteaaknbininehabDoor
open Go.RowKit Go.Shelf
attribute [local go_sem] Oper.semAt_some
theorem hide2 {p : Prop} (h : p) : Hid p := h
set_option maxRecDepth 100000 in
set_option maxHeartbeats 1000000 in
theorem date_no (n : Int) (w : World) (h : n < 0 ∨ 84371 ≤ n) :
    Calls Tryd.prog 54 #[.int .i64 n] w fun e w' => e = .returned (.tuple #[.agg #[.int .i64 0, .int .i64 0, .int .i64 0], .int .i64 20]) ∧ Below w.heap.size w w' := by
  have h2 := fun w => ahead_any 2201 w (by omega) (by omega)
  rw [Civ.dby_2201] at h2
  by_cases hn : n < 0
  · clear h2
    go_enter Tryd.func54, Tryd.ntmps54
    go_wp2_with fail
    exact bodyPost_ret (v := .tuple #[.agg #[.int .i64 0, .int .i64 0, .int .i64 0], .int .i64 20]) (by simp [results, Tryd.results54, go_sem]) rfl ⟨rfl, ((Below.refl _ _).alloc (Nat.le_refl _) _).alloc (by simp) _⟩
  · have hg : 84371 ≤ n := by omega
    clear h
    go_enter Tryd.func54, Tryd.ntmps54
    go_wp2_with fail
    refine (h2 _).mono ?_
    rintro e w1 ⟨rfl, rfl⟩
    go_wp2_with fail
    exact bodyPost_ret (v := .tuple #[.agg #[.int .i64 0, .int .i64 0, .int .i64 0], .int .i64 20]) (by simp [results, Tryd.results54, go_sem]) rfl ⟨rfl, ((Below.refl _ _).alloc (Nat.le_refl _) _).alloc (by simp) _⟩
/-- Between two rounds of Date's loop: the two results, the year, what is left. -/
structure DtSt (b : Nat) (y l : Int) (W : World) : Prop where
  c0 : W.cell? ⟨b, 0, none⟩ = some (.int .i64 0)
  c1 : W.cell? ⟨b, 1, none⟩ = some (.int .i64 0)
  c2 : W.cell? ⟨b, 2, none⟩ = some (.int .i64 0)
  f0 : W.frozen? ⟨b, 0, none⟩ = false
  f1 : W.frozen? ⟨b, 1, none⟩ = false
  f2 : W.frozen? ⟨b, 2, none⟩ = false
  e0 : W.cell? ⟨b + 1, 0, none⟩ = some (.int .i64 0)
  fe : W.frozen? ⟨b + 1, 0, none⟩ = false
  cy : W.cell? ⟨b + 1 + 1, 0, none⟩ = some (.int .i64 y)
  cl : W.cell? ⟨b + 1 + 1 + 1, 0, none⟩ = some (.int .i64 l)
  fl : W.frozen? ⟨b + 1 + 1 + 1, 0, none⟩ = false
structure DtEnd (b : Nat) (y m d : Int) (W : World) : Prop where
  c0 : W.cell? ⟨b, 0, none⟩ = some (.int .i64 y)
  c1 : W.cell? ⟨b, 1, none⟩ = some (.int .i64 m)
  c2 : W.cell? ⟨b, 2, none⟩ = some (.int .i64 d)
  e0 : W.cell? ⟨b + 1, 0, none⟩ = some (.int .i64 0)
theorem DtSt.start (w : World) (y l : Int) : DtSt w.heap.size y l (((((w.alloc (.cells #[.int .i64 0, .int .i64 0, .int .i64 0] 35)).alloc (.cells #[.int .i64 0] 27)).alloc (.cells #[.int .i64 y] 3)).alloc (.cells #[.int .i64 l] 3)).alloc (.cells #[.int .i64 y] 3)) := by
  have b0 : (((((w.alloc (.cells #[.int .i64 0, .int .i64 0, .int .i64 0] 35)).alloc (.cells #[.int .i64 0] 27)).alloc (.cells #[.int .i64 y] 3)).alloc (.cells #[.int .i64 l] 3)).alloc (.cells #[.int .i64 y] 3)).heap[w.heap.size]? = some (.cells #[.int .i64 0, .int .i64 0, .int .i64 0] 35) := by
    rw [Below.heap_alloc _ _ _ (by simp <;> omega), Below.heap_alloc _ _ _ (by simp <;> omega), Below.heap_alloc _ _ _ (by simp <;> omega), Below.heap_alloc _ _ _ (by simp), World.alloc_heap_new]
  have b1 : (((((w.alloc (.cells #[.int .i64 0, .int .i64 0, .int .i64 0] 35)).alloc (.cells #[.int .i64 0] 27)).alloc (.cells #[.int .i64 y] 3)).alloc (.cells #[.int .i64 l] 3)).alloc (.cells #[.int .i64 y] 3)).heap[w.heap.size + 1]? = some (.cells #[.int .i64 0] 27) := by
    rw [Below.heap_alloc _ _ _ (by simp <;> omega), Below.heap_alloc _ _ _ (by simp <;> omega), Below.heap_alloc _ _ _ (by simp)]
    have := World.alloc_heap_new (w.alloc (.cells #[.int .i64 0, .int .i64 0, .int .i64 0] 35)) (.cells #[.int .i64 0] 27)
    simpa only [World.size_alloc] using this
  have b2 : (((((w.alloc (.cells #[.int .i64 0, .int .i64 0, .int .i64 0] 35)).alloc (.cells #[.int .i64 0] 27)).alloc (.cells #[.int .i64 y] 3)).alloc (.cells #[.int .i64 l] 3)).alloc (.cells #[.int .i64 y] 3)).heap[w.heap.size + 1 + 1]? = some (.cells #[.int .i64 y] 3) := by
    rw [Below.heap_alloc _ _ _ (by simp <;> omega), Below.heap_alloc _ _ _ (by simp)]
    have := World.alloc_heap_new ((w.alloc (.cells #[.int .i64 0, .int .i64 0, .int .i64 0] 35)).alloc (.cells #[.int .i64 0] 27)) (.cells #[.int .i64 y] 3)
    simpa only [World.size_alloc] using this
  have b3 : (((((w.alloc (.cells #[.int .i64 0, .int .i64 0, .int .i64 0] 35)).alloc (.cells #[.int .i64 0] 27)).alloc (.cells #[.int .i64 y] 3)).alloc (.cells #[.int .i64 l] 3)).alloc (.cells #[.int .i64 y] 3)).heap[w.heap.size + 1 + 1 + 1]? = some (.cells #[.int .i64 l] 3) := by
    rw [Below.heap_alloc _ _ _ (by simp)]
    have := World.alloc_heap_new (((w.alloc (.cells #[.int .i64 0, .int .i64 0, .int .i64 0] 35)).alloc (.cells #[.int .i64 0] 27)).alloc (.cells #[.int .i64 y] 3)) (.cells #[.int .i64 l] 3)
    simpa only [World.size_alloc] using this
  constructor
  · simp only [World.cell?, b0]; rfl
  · simp only [World.cell?, b0]; rfl
  · simp only [World.cell?, b0]; rfl
  · simp only [World.frozen?, b0]; rfl
  · simp only [World.frozen?, b0]; rfl
  · simp only [World.frozen?, b0]; rfl
  · simp only [World.cell?, b1]; rfl
  · simp only [World.frozen?, b1]; rfl
  · simp only [World.cell?, b2]; rfl
  · simp only [World.cell?, b3]; rfl
  · simp only [World.frozen?, b3]; rfl
theorem DtEnd.of {b : Nat} {W : World} {y l m d : Int} (h : DtSt b y l W) :
    DtEnd b y m d ((((W.setCell ⟨b, 0, none⟩ (.int .i64 y)).setCell ⟨b, 1, none⟩ (.int .i64 m)).setCell ⟨b, 2, none⟩ (.int .i64 d)).setCell ⟨b + 1, 0, none⟩ (.int .i64 0)) := by
  have s0 := World.cell?_setCell_same _ _ (.int .i64 y) h.c0
  have s1 := World.cell?_setCell_same (W.setCell ⟨b, 0, none⟩ (.int .i64 y)) _ (.int .i64 m) ((World.cell?_setCell_other _ _ _ _ (by simp)).trans h.c1)
  have s2 := World.cell?_setCell_same ((W.setCell ⟨b, 0, none⟩ (.int .i64 y)).setCell ⟨b, 1, none⟩ (.int .i64 m)) _ (.int .i64 d) ((World.cell?_setCell_other _ _ _ _ (by simp)).trans ((World.cell?_setCell_other _ _ _ _ (by simp)).trans h.c2))
  have s3 := World.cell?_setCell_same (((W.setCell ⟨b, 0, none⟩ (.int .i64 y)).setCell ⟨b, 1, none⟩ (.int .i64 m)).setCell ⟨b, 2, none⟩ (.int .i64 d)) _ (.int .i64 0) ((World.cell?_setCell_other _ _ _ _ (by simp)).trans ((World.cell?_setCell_other _ _ _ _ (by simp)).trans ((World.cell?_setCell_other _ _ _ _ (by simp)).trans h.e0)))
  exact ⟨(World.cell?_setCell_other _ _ _ _ (by simp)).trans ((World.cell?_setCell_other _ _ _ _ (by simp)).trans ((World.cell?_setCell_other _ _ _ _ (by simp)).trans s0)),
    (World.cell?_setCell_other _ _ _ _ (by simp)).trans ((World.cell?_setCell_other _ _ _ _ (by simp)).trans s1), (World.cell?_setCell_other _ _ _ _ (by simp)).trans s2, s3⟩
theorem DtSt.left {b : Nat} {W : World} {y l : Int} (h : DtSt b y l W) (l' : Int) : DtSt b y l' (W.setCell ⟨b + 1 + 1 + 1, 0, none⟩ (.int .i64 l')) := by
  have o : ∀ (k j : Nat), k ≠ b + 1 + 1 + 1 → (W.setCell ⟨b + 1 + 1 + 1, 0, none⟩ (.int .i64 l')).cell? ⟨k, j, none⟩ = W.cell? ⟨k, j, none⟩ := fun k j hk => World.cell?_setCell_other _ _ _ _ (fun e => hk (by cases e; rfl))
  have f : ∀ (k j : Nat), (W.setCell ⟨b + 1 + 1 + 1, 0, none⟩ (.int .i64 l')).frozen? ⟨k, j, none⟩ = W.frozen? ⟨k, j, none⟩ := fun k j => by rw [World.frozen?_setCell]
  exact ⟨(o _ _ (by omega)).trans h.c0, (o _ _ (by omega)).trans h.c1, (o _ _ (by omega)).trans h.c2, (f _ _).trans h.f0, (f _ _).trans h.f1, (f _ _).trans h.f2, (o _ _ (by omega)).trans h.e0, (f _ _).trans h.fe, (o _ _ (by omega)).trans h.cy, World.cell?_setCell_same _ _ _ h.cl, (f _ _).trans h.fl⟩
set_option maxRecDepth 100000 in
set_option maxHeartbeats 4000000 in
theorem date_yes (n : Int) (w : World) (hT : LenIn w) (h0 : 0 ≤ n) (h1 : n < 84371) :
    Calls Tryd.prog 54 #[.int .i64 n] w fun e w' => e = .returned (.tuple #[.agg #[.int .i64 (Civ.dY n), .int .i64 (Civ.dM n), .int .i64 (Civ.dD n)], .int .i64 0]) ∧ Below w.heap.size w w' := by
  obtain ⟨ya, yb, yc, yd⟩ := Civ.yr_spec h0 h1
  have ys := Civ.dby_succ (Civ.yr n)
  have yl := Civ.lp_01 (Civ.yr n)
  obtain ⟨bd0, bd1⟩ := Civ.dby_bd ya (by omega)
  have h2 := fun w => ahead_any 2201 w (by omega) (by omega)
  rw [Civ.dby_2201] at h2
  have hl : Hid (∀ z, Civ.cum (Civ.yr n) z ≤ n - Civ.dby (Civ.yr n) → n - Civ.dby (Civ.yr n) < Civ.cum (Civ.yr n) (z + 1) → Civ.dM n = (z : Int) + 1 ∧ Civ.dD n = n - Civ.dby (Civ.yr n) - Civ.cum (Civ.yr n) z + 1) := by
    intro z z1 z2
    have := Civ.mth_uniq (y := Civ.yr n) (r := n - Civ.dby (Civ.yr n)) (by omega) (by omega) z1 z2
    unfold Civ.dM Civ.dD
    rw [this]
    exact ⟨rfl, rfl⟩
  have hY : Hid (Civ.dY n = Civ.yr n) := rfl
  have l3 := fun w => yearOf_any n w h0 h1
  have hlast : Hid (n - Civ.dby (Civ.yr n) < Civ.cum (Civ.yr n) 12) := by
    show _ < _
    rw [Civ.cum_12]; omega
  generalize hy : Civ.yr n = y at *
  have hy' := hide2 hy
  clear hy ys yl
  have hg : decide (n < 0) = false := by simpa using h0
  have hg' : decide (84371 ≤ n) = false := by simpa using h1
  refine (callsIn_wide (n := 5)).1 ?_
  refine callsIn_of_wp_marks Tryd.func54 rfl trivial ?_ rfl
  simp only [Tryd.ntmps54, List.size_toArray, List.length_cons, List.length_nil, Nat.reduceAdd, Nat.reduceSub, Array.replicate_succ, Array.replicate_zero, List.push_toArray, List.append_toArray, List.nil_append, List.cons_append]
  refine wpIn_wide.2 ?_
  go_wp2_with fail
  refine (h2 _).mono ?_
  rintro e w1 ⟨rfl, rfl⟩
  go_wp2_with fail
  refine (l3 _).mono ?_
  rintro e w1 ⟨rfl, rfl⟩
  go_wp2_with fail
  refine (ahead_any y _ ya (by omega)).mono ?_
  rintro e w1 ⟨rfl, rfl⟩
  go_wp2_with fail
  refine (months_any y _).mono ?_
  rintro e w1 ⟨rfl, rfl⟩
  go_wp2_with fail
  have hst := DtSt.start w y (n - Civ.dby y)
  have hB0 : Below w.heap.size w (((((w.alloc (.cells #[.int .i64 0, .int .i64 0, .int .i64 0] 35)).alloc (.cells #[.int .i64 0] 27)).alloc (.cells #[.int .i64 y] 3)).alloc (.cells #[.int .i64 (n - Civ.dby y)] 3)).alloc (.cells #[.int .i64 y] 3)) :=
    (((((Below.refl _ w).alloc (Nat.le_refl _) _).alloc (by simp) _).alloc (by simp; omega) _).alloc (by simp; omega) _).alloc (by simp; omega) _
  have hs : (((((w.alloc (.cells #[.int .i64 0, .int .i64 0, .int .i64 0] 35)).alloc (.cells #[.int .i64 0] 27)).alloc (.cells #[.int .i64 y] 3)).alloc (.cells #[.int .i64 (n - Civ.dby y)] 3)).alloc (.cells #[.int .i64 y] 3)).heap.size = w.heap.size + 5 := by simp
  have c3 : (((((w.alloc (.cells #[.int .i64 0, .int .i64 0, .int .i64 0] 35)).alloc (.cells #[.int .i64 0] 27)).alloc (.cells #[.int .i64 y] 3)).alloc (.cells #[.int .i64 (n - Civ.dby y)] 3)).alloc (.cells #[.int .i64 y] 3)).cell? ⟨w.heap.size + 1 + 1 + 1 + 1, 0, none⟩ = some (.int .i64 y) := by
    have := (cell_new_l ((((w.alloc (.cells #[.int .i64 0, .int .i64 0, .int .i64 0] 35)).alloc (.cells #[.int .i64 0] 27)).alloc (.cells #[.int .i64 y] 3)).alloc (.cells #[.int .i64 (n - Civ.dby y)] 3)) (.int .i64 y) 3).1
    simp only [World.size_alloc] at this
    exact this
  revert hst hB0 hs c3
  generalize ((((w.alloc (.cells #[.int .i64 0, .int .i64 0, .int .i64 0] 35)).alloc (.cells #[.int .i64 0] 27)).alloc (.cells #[.int .i64 y] 3)).alloc (.cells #[.int .i64 (n - Civ.dby y)] 3)).alloc (.cells #[.int .i64 y] 3) = W0
  intro hst hB0 hs c3
  have hT0 : LenIn W0 := hT.below hT.pos hB0
  have hpos := hT.pos
  refine (wpIn_wide (n := 5)).1 ?_
  refine wpIn_rangeFunc_ownF rfl (by omega) (gf := 65) (lb := #[.pointer (some ⟨w.heap.size + 1 + 1 + 1 + 1, 0, none⟩)]) rfl trivial (enters_of Tryd.func65 (by kernel_rfl) rfl)
    (months_stops (5 - 1) (w.heap.size + 1 + 1 + 1 + 1) y (by omega) (by omega) W0 hT0 (by omega) c3) KpM.trans (KpM.put (by omega) (by omega)) (Below.refl _ _) (fun _ => rfl)
    (fun pre W => (0 ≤ n - Civ.dby y - sumL y pre ∧ DtSt w.heap.size y (n - Civ.dby y - sumL y pre) W) ∧ Below w.heap.size w W)
    (fun c pre W => (c = .ret ∧ ∃ p x, pre = p ++ [x] ∧ 0 ≤ n - Civ.dby y - sumL y p ∧ n - Civ.dby y - sumL y p < Civ.dim y ((x.val : Int) + 1) ∧ DtEnd w.heap.size y ((x.val : Int) + 1) (n - Civ.dby y - sumL y p + 1) W) ∧ Below w.heap.size w W)
    (OwnFrom.and (Own.from (fun s A B row hs hg hr => ⟨hs.1, cell_kept hs.2.c0 hg hr, cell_kept hs.2.c1 hg hr, cell_kept hs.2.c2 hg hr, (frozen_kept hs.2.c0 hg hr).trans hs.2.f0, (frozen_kept hs.2.c1 hg hr).trans hs.2.f1, (frozen_kept hs.2.c2 hg hr).trans hs.2.f2, cell_kept hs.2.e0 hg hr, (frozen_kept hs.2.e0 hg hr).trans hs.2.fe, cell_kept hs.2.cy hg hr, cell_kept hs.2.cl hg hr, (frozen_kept hs.2.cl hg hr).trans hs.2.fl⟩) _) (ownFrom_below (Nat.le_refl _) (by omega)))
    (fun c => OwnFrom.and (Own.from (fun s A B row hs hg hr => ⟨hs.1, by obtain ⟨p, x, e, h1, h2, hc⟩ := hs.2; exact ⟨p, x, e, h1, h2, cell_kept hc.c0 hg hr, cell_kept hc.c1 hg hr, cell_kept hc.c2 hg hr, cell_kept hc.e0 hg hr⟩⟩) _) (ownFrom_below (Nat.le_refl _) (by omega)))
    ⟨⟨by simp [sumL]; omega, by simpa [sumL] using hst⟩, hB0⟩
    (fun x => { tmps := #[.int .i64 n, undef, .pointer (some ⟨w.heap.size, 0, none⟩), .pointer (some ⟨w.heap.size + 1, 0, none⟩), .pointer (some ⟨w.heap.size + 1 + 1, 0, none⟩), .pointer (some ⟨w.heap.size + 1 + 1 + 1, 0, none⟩), .int .i64 ((x.val : Int) + 1), .int .i64 (Civ.dim y ((x.val : Int) + 1)), .int .i64 n, .bool false, .bool false, .int .i64 n, .int .i64 84371, .bool false, .bool false, undef, .int .i64 n, .int .i64 y, .int .i64 n, .int .i64 y, .int .i64 (Civ.dby y), .int .i64 (n - Civ.dby y), .int .i64 y, .func (.func 65) #[] #[.pointer (some ⟨w.heap.size + 1 + 1 + 1 + 1, 0, none⟩)], .int .i64 ((x.val : Int) + 1), .int .i64 (Civ.dim y ((x.val : Int) + 1)), undef, undef, undef, undef, undef, undef, undef, undef, undef, undef, undef, undef], defers := [] }) ?assign ?body ?done ?stop
  case assign =>
    intro l x W K hK
    simp only [mEnc]
    gi_wp2
    exact hK
  case body =>
    rintro l pre x W ⟨⟨hp, hd⟩, hB⟩ hlen
    have sb := sumL_bd y pre
    have xb := Civ.dim_bd y ((x.val : Int) + 1)
    have hd' := hd
    obtain ⟨c0, c1, c2, f0, f1, f2, e0, fe, cy, cl, fl⟩ := hd'
    by_cases hx : n - Civ.dby y - sumL y pre < Civ.dim y ((x.val : Int) + 1)
    · have hp' := hide2 hp
      have hx' := hide2 hx
      gi_wp2
      refine ⟨(((KeepsOthers.setCell _ _ _).trans (KeepsOthers.setCell _ _ _)).trans (KeepsOthers.setCell _ _ _)).trans (KeepsOthers.setCell _ _ _), ⟨rfl, pre, x, rfl, hp'.out, hx'.out, DtEnd.of hd⟩, ?_⟩
      exact (((hB.setCell (p := ⟨w.heap.size, 0, none⟩) (by simp) _).setCell (p := ⟨w.heap.size, 1, none⟩) (by simp) _).setCell (p := ⟨w.heap.size, 2, none⟩) (by simp) _).setCell (p := ⟨w.heap.size + 1, 0, none⟩) (by simp) _
    · have hp' : Hid (0 ≤ n - Civ.dby y - sumL y (pre ++ [x])) := by show _ ≤ _; rw [sumL_snoc]; omega
      have he : Hid (n - Civ.dby y - sumL y pre - Civ.dim y ((x.val : Int) + 1) = n - Civ.dby y - sumL y (pre ++ [x])) := by show _ = _; rw [sumL_snoc]; omega
      gi_wp2
      rw [he.out]
      exact ⟨KeepsOthers.setCell _ _ _, KpM.setCell W (w.heap.size + 1 + 1 + 1) 0 _ (by omega) (by omega), ⟨by have := hp'.out; omega, hd.left _⟩, hB.setCell (p := ⟨w.heap.size + 1 + 1 + 1, 0, none⟩) (by simp; omega) _⟩
  case done =>
    rintro D ys W hD rfl ⟨⟨hp, _⟩, hB⟩ hK
    have e1 := sumL_take y 12 (by omega)
    rw [List.take_of_length_le (by simp)] at e1
    have := hlast.out
    omega
  case stop =>
    rintro D c pre W hD ⟨k, hk, rfl⟩ ⟨⟨rfl, p, x, hpx, z1, z2, hc⟩, hB⟩ hK
    refine (wpIn_wide (n := 5)).2 ?_
    have hp := pre_last hk hpx
    rw [hp, sumL_take y _ (by omega)] at z1 z2 hc
    obtain ⟨e1, e2⟩ := hl.out x.val (by omega) (by rw [Civ.cum_succ]; omega)
    obtain ⟨c0, c1, c2, e0⟩ := hc
    rw [← e1] at c1
    rw [← e2] at c2
    go_wp2
    refine ⟨by simp, .inl ⟨_, _, rfl, run_takeDeferred hK, ?_⟩⟩
    have g0 := cell_kept c0 (grownBy_putObj' _ D (.deferred none)) (fun r e => by cases e; exact ⟨_, hK, rfl⟩)
    have g1 := cell_kept c1 (grownBy_putObj' _ D (.deferred none)) (fun r e => by cases e; exact ⟨_, hK, rfl⟩)
    have g2 := cell_kept c2 (grownBy_putObj' _ D (.deferred none)) (fun r e => by cases e; exact ⟨_, hK, rfl⟩)
    have g3 := cell_kept e0 (grownBy_putObj' _ D (.deferred none)) (fun r e => by cases e; exact ⟨_, hK, rfl⟩)
    refine ⟨.tuple #[.agg #[.int .i64 y, .int .i64 (Civ.dM n), .int .i64 (Civ.dD n)], .int .i64 0], ?_, by rw [hY.out], hB.trans (belowK_b (w := w) (Nat.le_refl _) W D _ _ (by omega) hK rfl rfl)⟩
    simp [results, Tryd.results54, go_sem, g0, g1, g2, g3]
end Go.Proofs.YteaaknbininehabDoor
