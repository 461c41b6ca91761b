import Derived.Test.YtcfclknfnadgcaaDoorBaa
/- Contracts of (graph.ends).count, continued. -/
namespace Go.Proofs.YtcfclknfnadgcaaDoor
open Go.RowKit Go.Shelf Go.Lib
set_option maxRecDepth 100000 in
set_option maxHeartbeats 4000000 in
theorem ecount_more {w : World} {eb : Nat} {fb : ByteArray → Option Nat} {C : ByteArray → Ed → Int} {c : Nat} (h : En w eb fb C c) (x : ByteArray) (k : Int) (a b : ByteArray) (he : okE (k, a, b)) {bl : Nat} (hf : fb x = some bl) (hx : x.size ≤ 1000) (hc : c ≤ 900000) :
    Calls Tryd.prog 33 #[.map (some eb), .string x, .agg #[.int .i64 k, .string a, .string b], .int .i64 1] w fun r w' => r = .returned (.tuple #[]) ∧ ∃ fb', En w' eb fb' (updC C x (k, a, b) 1) (c + 1) ∧ EnGo w eb fb w' fb' := by
  obtain ⟨m, hm, hA⟩ := h.all
  obtain ⟨n, hn, hn0, hM⟩ := h.sub x bl hf
  obtain ⟨E, hE⟩ : ∃ E : EK, E = ⟨(k, a, b), he⟩ := ⟨_, rfl⟩
  have hEv : edV E.1 = .agg #[.int .i64 k, .string a, .string b] := by rw [hE]; rfl
  have hEe : E.1 = (k, a, b) := by rw [hE]
  have hqb := h.bd x (k, a, b)
  obtain ⟨q, hq⟩ : ∃ q, C x (k, a, b) = q := ⟨_, rfl⟩
  rw [hq] at hqb
  obtain ⟨W0, hW0⟩ : ∃ W0, w.alloc (.cells #[.int .i64 k, .string a, .string b] 37) = W0 := ⟨_, rfl⟩
  have b0 : Below w.heap.size w W0 := by rw [← hW0]; exact (Below.refl _ _).alloc (Nat.le_refl _) _
  have x0 : Bx k a b w.heap.size W0 := by rw [← hW0]; exact Bx.mk' _ _
  have lbl : bl < w.heap.size := h.lt (.inr ⟨x, hf⟩)
  have hA0 := hA.mv (Mv.below (E := fun _ => False) b0) (fun h => h)
  have hM0 := hM.mv (Mv.below (E := fun _ => False) b0) (fun h => h)
  have hlk := hA0.look lawS undEn (zeroMe W0) (a := x) (keyS hx)
  rw [hf] at hlk
  simp only [Option.map_some, Option.getD_some, Option.isSome_some] at hlk
  have hM2d := hM0.mv (Mv.drew (fun _ => False) W0) (fun h => h)
  have x2d := x0.mv (Mv.drew (fun _ => False) W0) (fun h => h)
  obtain ⟨W3, st, hen, mv3, hlk3, hst⟩ := hM2d.entry undMe zeroI E (by unfold maxLen; omega)
  have hlk2 := hM2d.look1 lawE undMe (zeroI _) (a := E) (keyE E)
  obtain ⟨W4, hst4, hM4, mv4⟩ := hst (.int .i64 (q + 1))
  rw [hEv] at hen hlk3 hlk2
  rw [cfS_get, hEe, hq] at hen hlk3 hlk2
  have x3 := x2d.mv mv3 (by show ¬ w.heap.size = bl; omega)
  have x4 := x2d.mv mv4 (by show ¬ w.heap.size = bl; omega)
  have hlk4 := hM4.look1 lawE undMe (zeroI _) (a := E) (keyE E)
  rw [if_pos rfl, hEv] at hlk4
  simp only [Option.getD_some] at hlk4
  obtain ⟨n4, hn4⟩ : ∃ n4, upN (cfS (C x) E).isSome n = n4 := ⟨_, rfl⟩
  have hn4b : n4 ≤ c + 1 ∧ n4 ≠ 0 := by rw [← hn4]; unfold upN; split <;> omega
  rw [hn4] at hM4
  have hln4 := hM4.len undMe 3
  have hM4' : ME W4 bl n4 (cfS (updC C x (k, a, b) 1 x)) := hM4.cong (fun f => by
    have := cfS_upd (C := C) (x := x) (e := E) (d := 1) (by rw [hEe, hq]; omega) f
    rw [hEe, hq] at this
    rw [this])
  have mvB : Mv (fun k => k = bl) w W4 := ((Mv.below b0).trans' (Mv.drew _ _)).trans' mv4
  have fin : Hid (∃ fb', En W4 eb fb' (updC C x (k, a, b) 1) (c + 1) ∧ EnGo w eb fb W4 fb') := by
    have := h.put (x := x) (b := bl) (e := E) (d := 1) (n := n4) hf hn4b.1 hn4b.2 (by rw [hEe, hq]; omega) (by omega) mvB (by rw [hEe]; exact hM4')
    rw [hEe] at this
    exact ⟨fb, this, ⟨mvB.mono (fun k _ e => .inr ⟨x, e ▸ hf⟩), fun _ h => .inl h⟩⟩
  have t1 : (q + 1 == 0) = false := by rw [beq_eq_false_iff_ne]; omega
  have t2 : ((n4 : Int) == 0) = false := by rw [beq_eq_false_iff_ne]; omega
  obtain ⟨p0, p1, p2⟩ := x0
  obtain ⟨r0, r1, r2⟩ := x4
  have hwr : IntKind.i64.wrap (q + 1) = q + 1 := by exact i64w _ (by omega) (by omega)
  have hS : (W0.drew.cell? ⟨w.heap.size, 0, none⟩ = some (.int .i64 k) ∧ W0.drew.cell? ⟨w.heap.size, 1, none⟩ = some (.string a) ∧ W0.drew.cell? ⟨w.heap.size, 2, none⟩ = some (.string b)) ∧ (Instr.lookup 62 (.map (some bl)) (.agg #[.int .i64 k, .string a, .string b]) false).run Tryd.prog W0.drew = .ok (.int .i64 q) W0.drew := ⟨⟨p0, p1, p2⟩, hlk2⟩
  have hS3 : (W3.cell? ⟨w.heap.size, 0, none⟩ = some (.int .i64 k) ∧ W3.cell? ⟨w.heap.size, 1, none⟩ = some (.string a) ∧ W3.cell? ⟨w.heap.size, 2, none⟩ = some (.string b)) ∧ (Instr.lookup 62 (.map (some bl)) (.agg #[.int .i64 k, .string a, .string b]) false).run Tryd.prog W3 = .ok (.int .i64 q) W3 := ⟨⟨x3.c0, x3.c1, x3.c2⟩, hlk3⟩
  clear h hf hA hA0 hM hM0 hM2d hM4 hEv hEe hq mv3 mv4 mvB hst x3 x2d b0 hlk2 hlk3 hm hn0 hE hM4' hn4 hn4b
  go_enter Tryd.func33, Tryd.ntmps33
  go_wp2_with (rw [hW0])
  refine Zs.region (S := fun y => (y.cell? ⟨w.heap.size, 0, none⟩ = some (.int .i64 k) ∧ y.cell? ⟨w.heap.size, 1, none⟩ = some (.string a) ∧ y.cell? ⟨w.heap.size, 2, none⟩ = some (.string b)) ∧ (Instr.lookup 62 (.map (some bl)) (.agg #[.int .i64 k, .string a, .string b]) false).run Tryd.prog y = .ok (.int .i64 q) y) 7 (by kernel_rfl) ?_
  refine Zs.pure (i := 0) (oi := ⟨some 22, _, _, _, _, _⟩) (v := ?v0) rfl (by kernel_rfl) (by kernel_rfl) (by kernel_rfl) (by decide) (fun _ _ _ h => h) (Or.inl ⟨by rfl, ?hy0⟩) hS ?_
  case hy0 => (intro w hSw; (try dsimp only at hSw); go_simp; try with_reducible rfl)
  simp only [Act.put, List.setIfInBounds_toArray, List.set_cons_zero, List.set_cons_succ]
  refine Zs.take (i := 1) (oi := ⟨some 23, _, _, _, _, _⟩) (v := ?v1) rfl (by kernel_rfl) (by kernel_rfl) (by kernel_rfl) (by decide) (by kernel_rfl) (by kernel_rfl) (fun _ _ _ h => h) (Or.inl ⟨by rfl, ?hy1⟩) hS ?_
  case hy1 => (intro w hSw; (try dsimp only at hSw); go_simp; try with_reducible rfl)
  simp only [Act.put, List.setIfInBounds_toArray, List.set_cons_zero, List.set_cons_succ]
  refine Zs.take (i := 2) (oi := ⟨some 24, _, _, _, _, _⟩) (v := ?v2) rfl (by kernel_rfl) (by kernel_rfl) (by kernel_rfl) (by decide) (by kernel_rfl) (by kernel_rfl) (fun _ _ _ h => h) (Or.inl ⟨by rfl, ?hy2⟩) hS ?_
  case hy2 => (intro w hSw; (try dsimp only at hSw); go_simp; try with_reducible rfl)
  simp only [Act.put, List.setIfInBounds_toArray, List.set_cons_zero, List.set_cons_succ]
  refine Zs.pure (i := 3) (oi := ⟨some 25, _, _, _, _, _⟩) (v := ?v3) rfl (by kernel_rfl) (by kernel_rfl) (by kernel_rfl) (by decide) (fun _ _ _ h => h) (Or.inl ⟨by rfl, ?hy3⟩) hS ?_
  case hy3 => (intro w hSw; (try dsimp only at hSw); go_simp; try with_reducible rfl)
  simp only [Act.put, List.setIfInBounds_toArray, List.set_cons_zero, List.set_cons_succ]
  refine Zs.pure (i := 4) (oi := ⟨some 26, _, _, _, _, _⟩) (v := ?v4) rfl (by kernel_rfl) (by kernel_rfl) (by kernel_rfl) (by decide) (fun _ _ _ h => h) (Or.inl ⟨by rfl, ?hy4⟩) hS ?_
  case hy4 => (intro w hSw; (try dsimp only at hSw); go_simp; try with_reducible rfl)
  simp only [Act.put, List.setIfInBounds_toArray, List.set_cons_zero, List.set_cons_succ]
  refine Zs.one (i := 5) (oi := ⟨some 27, _, _, _, _, _⟩) (by kernel_rfl) rfl (fun K hK => ?_)
  go_simp
  refine hK.out _ _ (fun _ => hS3) ?_
  clear hK K
  try simp only [Act.put, List.setIfInBounds_toArray, List.set_cons_zero, List.set_cons_succ]
  refine Zs.pure (i := 6) (oi := ⟨some 28, _, _, _, _, _⟩) (v := ?v6) rfl (by kernel_rfl) (by kernel_rfl) (by kernel_rfl) (by decide) (fun _ _ _ h => h) (Or.inl ⟨by rfl, ?hy6⟩) hS3 ?_
  case hy6 => (intro w hSw; (try dsimp only at hSw); go_simp; try with_reducible rfl)
  simp only [Act.put, List.setIfInBounds_toArray, List.set_cons_zero, List.set_cons_succ]
  refine Zs.one (i := 7) (oi := ⟨none, _, _, _, _, _⟩) (by kernel_rfl) rfl (fun K hK => ?_)
  go_simp
  refine hK.out _ _ (fun q => absurd q (by decide)) ?_
  clear hK K
  try simp only [Act.put, List.setIfInBounds_toArray, List.set_cons_zero, List.set_cons_succ]
  refine Zs.done (by kernel_rfl) ?_ _
  go_wp2_with fail
  refine bodyPost_end (v := .tuple #[]) (by simp [results, Tryd.results33, go_sem]) rfl ?_
  exact ⟨rfl, fin.out⟩
set_option maxRecDepth 100000 in
set_option maxHeartbeats 4000000 in
theorem ecount_less {w : World} {eb : Nat} {fb : ByteArray → Option Nat} {C : ByteArray → Ed → Int} {c : Nat} (h : En w eb fb C c) (x : ByteArray) (k : Int) (a b : ByteArray) (he : okE (k, a, b)) {bl : Nat} (hf : fb x = some bl) (hC : 2 ≤ C x (k, a, b)) (hx : x.size ≤ 1000) (hc : c ≤ 900000) :
    Calls Tryd.prog 33 #[.map (some eb), .string x, .agg #[.int .i64 k, .string a, .string b], .int .i64 (-1)] w fun r w' => r = .returned (.tuple #[]) ∧ ∃ fb', En w' eb fb' (updC C x (k, a, b) (-1)) (c + 1) ∧ EnGo w eb fb w' fb' := by
  obtain ⟨m, hm, hA⟩ := h.all
  obtain ⟨n, hn, hn0, hM⟩ := h.sub x bl hf
  obtain ⟨E, hE⟩ : ∃ E : EK, E = ⟨(k, a, b), he⟩ := ⟨_, rfl⟩
  have hEv : edV E.1 = .agg #[.int .i64 k, .string a, .string b] := by rw [hE]; rfl
  have hEe : E.1 = (k, a, b) := by rw [hE]
  have hqb := h.bd x (k, a, b)
  obtain ⟨q, hq⟩ : ∃ q, C x (k, a, b) = q := ⟨_, rfl⟩
  rw [hq] at hqb hC
  obtain ⟨W0, hW0⟩ : ∃ W0, w.alloc (.cells #[.int .i64 k, .string a, .string b] 37) = W0 := ⟨_, rfl⟩
  have b0 : Below w.heap.size w W0 := by rw [← hW0]; exact (Below.refl _ _).alloc (Nat.le_refl _) _
  have x0 : Bx k a b w.heap.size W0 := by rw [← hW0]; exact Bx.mk' _ _
  have lbl : bl < w.heap.size := h.lt (.inr ⟨x, hf⟩)
  have hA0 := hA.mv (Mv.below (E := fun _ => False) b0) (fun h => h)
  have hM0 := hM.mv (Mv.below (E := fun _ => False) b0) (fun h => h)
  have hlk := hA0.look lawS undEn (zeroMe W0) (a := x) (keyS hx)
  rw [hf] at hlk
  simp only [Option.map_some, Option.getD_some, Option.isSome_some] at hlk
  have hM2d := hM0.mv (Mv.drew (fun _ => False) W0) (fun h => h)
  have x2d := x0.mv (Mv.drew (fun _ => False) W0) (fun h => h)
  obtain ⟨W3, st, hen, mv3, hlk3, hst⟩ := hM2d.entry undMe zeroI E (by unfold maxLen; omega)
  have hlk2 := hM2d.look1 lawE undMe (zeroI _) (a := E) (keyE E)
  obtain ⟨W4, hst4, hM4, mv4⟩ := hst (.int .i64 (q + (-1)))
  rw [hEv] at hen hlk3 hlk2
  rw [cfS_get, hEe, hq] at hen hlk3 hlk2
  have x3 := x2d.mv mv3 (by show ¬ w.heap.size = bl; omega)
  have x4 := x2d.mv mv4 (by show ¬ w.heap.size = bl; omega)
  have hlk4 := hM4.look1 lawE undMe (zeroI _) (a := E) (keyE E)
  rw [if_pos rfl, hEv] at hlk4
  simp only [Option.getD_some] at hlk4
  obtain ⟨n4, hn4⟩ : ∃ n4, upN (cfS (C x) E).isSome n = n4 := ⟨_, rfl⟩
  have hn4b : n4 ≤ c + 1 ∧ n4 ≠ 0 := by rw [← hn4]; unfold upN; split <;> omega
  rw [hn4] at hM4
  have hln4 := hM4.len undMe 3
  have hM4' : ME W4 bl n4 (cfS (updC C x (k, a, b) (-1) x)) := hM4.cong (fun f => by
    have := cfS_upd (C := C) (x := x) (e := E) (d := (-1)) (by rw [hEe, hq]; omega) f
    rw [hEe, hq] at this
    rw [this])
  have mvB : Mv (fun k => k = bl) w W4 := ((Mv.below b0).trans' (Mv.drew _ _)).trans' mv4
  have fin : Hid (∃ fb', En W4 eb fb' (updC C x (k, a, b) (-1)) (c + 1) ∧ EnGo w eb fb W4 fb') := by
    have := h.put (x := x) (b := bl) (e := E) (d := (-1)) (n := n4) hf hn4b.1 hn4b.2 (by rw [hEe, hq]; omega) (by omega) mvB (by rw [hEe]; exact hM4')
    rw [hEe] at this
    exact ⟨fb, this, ⟨mvB.mono (fun k _ e => .inr ⟨x, e ▸ hf⟩), fun _ h => .inl h⟩⟩
  have t1 : (q + (-1) == 0) = false := by rw [beq_eq_false_iff_ne]; omega
  have t2 : ((n4 : Int) == 0) = false := by rw [beq_eq_false_iff_ne]; omega
  obtain ⟨p0, p1, p2⟩ := x0
  obtain ⟨r0, r1, r2⟩ := x4
  have hwr : IntKind.i64.wrap (q + (-1)) = q + (-1) := by exact i64w _ (by omega) (by omega)
  have hS : (W0.drew.cell? ⟨w.heap.size, 0, none⟩ = some (.int .i64 k) ∧ W0.drew.cell? ⟨w.heap.size, 1, none⟩ = some (.string a) ∧ W0.drew.cell? ⟨w.heap.size, 2, none⟩ = some (.string b)) ∧ (Instr.lookup 62 (.map (some bl)) (.agg #[.int .i64 k, .string a, .string b]) false).run Tryd.prog W0.drew = .ok (.int .i64 q) W0.drew := ⟨⟨p0, p1, p2⟩, hlk2⟩
  have hS3 : (W3.cell? ⟨w.heap.size, 0, none⟩ = some (.int .i64 k) ∧ W3.cell? ⟨w.heap.size, 1, none⟩ = some (.string a) ∧ W3.cell? ⟨w.heap.size, 2, none⟩ = some (.string b)) ∧ (Instr.lookup 62 (.map (some bl)) (.agg #[.int .i64 k, .string a, .string b]) false).run Tryd.prog W3 = .ok (.int .i64 q) W3 := ⟨⟨x3.c0, x3.c1, x3.c2⟩, hlk3⟩
  clear h hf hA hA0 hM hM0 hM2d hM4 hEv hEe hq mv3 mv4 mvB hst x3 x2d b0 hlk2 hlk3 hm hn0 hE hM4' hn4 hn4b
  go_enter Tryd.func33, Tryd.ntmps33
  go_wp2_with (rw [hW0])
  refine Zs.region (S := fun y => (y.cell? ⟨w.heap.size, 0, none⟩ = some (.int .i64 k) ∧ y.cell? ⟨w.heap.size, 1, none⟩ = some (.string a) ∧ y.cell? ⟨w.heap.size, 2, none⟩ = some (.string b)) ∧ (Instr.lookup 62 (.map (some bl)) (.agg #[.int .i64 k, .string a, .string b]) false).run Tryd.prog y = .ok (.int .i64 q) y) 7 (by kernel_rfl) ?_
  refine Zs.pure (i := 0) (oi := ⟨some 22, _, _, _, _, _⟩) (v := ?v0) rfl (by kernel_rfl) (by kernel_rfl) (by kernel_rfl) (by decide) (fun _ _ _ h => h) (Or.inl ⟨by rfl, ?hy0⟩) hS ?_
  case hy0 => (intro w hSw; (try dsimp only at hSw); go_simp; try with_reducible rfl)
  simp only [Act.put, List.setIfInBounds_toArray, List.set_cons_zero, List.set_cons_succ]
  refine Zs.take (i := 1) (oi := ⟨some 23, _, _, _, _, _⟩) (v := ?v1) rfl (by kernel_rfl) (by kernel_rfl) (by kernel_rfl) (by decide) (by kernel_rfl) (by kernel_rfl) (fun _ _ _ h => h) (Or.inl ⟨by rfl, ?hy1⟩) hS ?_
  case hy1 => (intro w hSw; (try dsimp only at hSw); go_simp; try with_reducible rfl)
  simp only [Act.put, List.setIfInBounds_toArray, List.set_cons_zero, List.set_cons_succ]
  refine Zs.take (i := 2) (oi := ⟨some 24, _, _, _, _, _⟩) (v := ?v2) rfl (by kernel_rfl) (by kernel_rfl) (by kernel_rfl) (by decide) (by kernel_rfl) (by kernel_rfl) (fun _ _ _ h => h) (Or.inl ⟨by rfl, ?hy2⟩) hS ?_
  case hy2 => (intro w hSw; (try dsimp only at hSw); go_simp; try with_reducible rfl)
  simp only [Act.put, List.setIfInBounds_toArray, List.set_cons_zero, List.set_cons_succ]
  refine Zs.pure (i := 3) (oi := ⟨some 25, _, _, _, _, _⟩) (v := ?v3) rfl (by kernel_rfl) (by kernel_rfl) (by kernel_rfl) (by decide) (fun _ _ _ h => h) (Or.inl ⟨by rfl, ?hy3⟩) hS ?_
  case hy3 => (intro w hSw; (try dsimp only at hSw); go_simp; try with_reducible rfl)
  simp only [Act.put, List.setIfInBounds_toArray, List.set_cons_zero, List.set_cons_succ]
  refine Zs.pure (i := 4) (oi := ⟨some 26, _, _, _, _, _⟩) (v := ?v4) rfl (by kernel_rfl) (by kernel_rfl) (by kernel_rfl) (by decide) (fun _ _ _ h => h) (Or.inl ⟨by rfl, ?hy4⟩) hS ?_
  case hy4 => (intro w hSw; (try dsimp only at hSw); go_simp; try with_reducible rfl)
  simp only [Act.put, List.setIfInBounds_toArray, List.set_cons_zero, List.set_cons_succ]
  refine Zs.one (i := 5) (oi := ⟨some 27, _, _, _, _, _⟩) (by kernel_rfl) rfl (fun K hK => ?_)
  go_simp
  refine hK.out _ _ (fun _ => hS3) ?_
  clear hK K
  try simp only [Act.put, List.setIfInBounds_toArray, List.set_cons_zero, List.set_cons_succ]
  refine Zs.pure (i := 6) (oi := ⟨some 28, _, _, _, _, _⟩) (v := ?v6) rfl (by kernel_rfl) (by kernel_rfl) (by kernel_rfl) (by decide) (fun _ _ _ h => h) (Or.inl ⟨by rfl, ?hy6⟩) hS3 ?_
  case hy6 => (intro w hSw; (try dsimp only at hSw); go_simp; try with_reducible rfl)
  simp only [Act.put, List.setIfInBounds_toArray, List.set_cons_zero, List.set_cons_succ]
  refine Zs.one (i := 7) (oi := ⟨none, _, _, _, _, _⟩) (by kernel_rfl) rfl (fun K hK => ?_)
  go_simp
  refine hK.out _ _ (fun q => absurd q (by decide)) ?_
  clear hK K
  try simp only [Act.put, List.setIfInBounds_toArray, List.set_cons_zero, List.set_cons_succ]
  refine Zs.done (by kernel_rfl) ?_ _
  go_wp2_with fail
  refine bodyPost_end (v := .tuple #[]) (by simp [results, Tryd.results33, go_sem]) rfl ?_
  exact ⟨rfl, fin.out⟩
end Go.Proofs.YtcfclknfnadgcaaDoor
/- Contracts of (graph.ends).count, continued. -/
namespace Go.Proofs.YtcfclknfnadgcaaDoor
open Go.RowKit Go.Shelf Go.Lib
set_option maxRecDepth 100000 in
set_option maxHeartbeats 4000000 in
theorem ecount_last {w : World} {eb : Nat} {fb : ByteArray → Option Nat} {C : ByteArray → Ed → Int} {c : Nat} (h : En w eb fb C c) (x : ByteArray) (k : Int) (a b : ByteArray) (he : okE (k, a, b)) {bl : Nat} (hf : fb x = some bl) (hC : C x (k, a, b) = 1) (hx : x.size ≤ 1000) (hc : c ≤ 900000) :
    Calls Tryd.prog 33 #[.map (some eb), .string x, .agg #[.int .i64 k, .string a, .string b], .int .i64 (-1)] w fun r w' => r = .returned (.tuple #[]) ∧ ∃ fb', En w' eb fb' (updC C x (k, a, b) (-1)) (c + 1) ∧ EnGo w eb fb w' fb' := by
  obtain ⟨m, hm, hA⟩ := h.all
  obtain ⟨n, hn, hn0, hM⟩ := h.sub x bl hf
  obtain ⟨E, hE⟩ : ∃ E : EK, E = ⟨(k, a, b), he⟩ := ⟨_, rfl⟩
  have hEv : edV E.1 = .agg #[.int .i64 k, .string a, .string b] := by rw [hE]; rfl
  have hEe : E.1 = (k, a, b) := by rw [hE]
  have hqb := h.bd x (k, a, b)
  obtain ⟨q, hq⟩ : ∃ q, C x (k, a, b) = q := ⟨_, rfl⟩
  rw [hq] at hqb hC
  obtain ⟨W0, hW0⟩ : ∃ W0, w.alloc (.cells #[.int .i64 k, .string a, .string b] 37) = W0 := ⟨_, rfl⟩
  have b0 : Below w.heap.size w W0 := by rw [← hW0]; exact (Below.refl _ _).alloc (Nat.le_refl _) _
  have x0 : Bx k a b w.heap.size W0 := by rw [← hW0]; exact Bx.mk' _ _
  have lbl : bl < w.heap.size := h.lt (.inr ⟨x, hf⟩)
  have hA0 := hA.mv (Mv.below (E := fun _ => False) b0) (fun h => h)
  have hM0 := hM.mv (Mv.below (E := fun _ => False) b0) (fun h => h)
  have hlk := hA0.look lawS undEn (zeroMe W0) (a := x) (keyS hx)
  rw [hf] at hlk
  simp only [Option.map_some, Option.getD_some, Option.isSome_some] at hlk
  have hM2d := hM0.mv (Mv.drew (fun _ => False) W0) (fun h => h)
  have x2d := x0.mv (Mv.drew (fun _ => False) W0) (fun h => h)
  obtain ⟨W3, st, hen, mv3, hlk3, hst⟩ := hM2d.entry undMe zeroI E (by unfold maxLen; omega)
  have hlk2 := hM2d.look1 lawE undMe (zeroI _) (a := E) (keyE E)
  obtain ⟨W4, hst4, hM4, mv4⟩ := hst (.int .i64 (q + (-1)))
  rw [hEv] at hen hlk3 hlk2
  rw [cfS_get, hEe, hq] at hen hlk3 hlk2
  have x3 := x2d.mv mv3 (by show ¬ w.heap.size = bl; omega)
  have x4 := x2d.mv mv4 (by show ¬ w.heap.size = bl; omega)
  have hlk4 := hM4.look1 lawE undMe (zeroI _) (a := E) (keyE E)
  rw [if_pos rfl, hEv] at hlk4
  simp only [Option.getD_some] at hlk4
  have hs : (cfS (C x) E).isSome = true := by rw [cfS_some, hEe, hq]; simp; omega
  rw [hs] at hM4
  have hu : upN true n = n := rfl
  rw [hu] at hM4
  have hq0 : q + (-1) = 0 := by omega
  obtain ⟨W5, hdl, hM5, mv5⟩ := hM4.drop lawE (fun _ _ => eE_inj) undMe (a := E) (keyE E) 0
  rw [hEv] at hdl
  simp only [if_true, Option.isSome_some] at hM5
  have hu5 : dnN true n = n - 1 := rfl
  rw [hu5] at hM5
  have hM5' : ME W5 bl (n - 1) (cfS (updC C x (k, a, b) (-1) x)) := hM5.cong (fun f => by
    have := cfS_zero (C := C) (x := x) (e := E) (d := (-1)) (by rw [hEe, hq]; omega) f
    rw [hEe] at this
    rw [this]
    by_cases e : f = E
    · rw [if_pos e, if_pos e]
    · rw [if_neg e, if_neg e, if_neg e])
  have hln5 := hM5'.len undMe 3
  have mvB : Mv (fun k => k = bl) w W5 := (((Mv.below b0).trans' (Mv.drew _ _)).trans' mv4).trans' mv5
  rw [hq0] at hst4 hlk4
  have x5 := x4.mv mv5 (by show ¬ w.heap.size = bl; omega)
  by_cases hn1 : n = 1
  · subst hn1
    simp only [Nat.sub_self] at hM5' hln5
    obtain ⟨W6, hdl6, hA6, mv6⟩ := ((hA.mv mvB (fun e => h.ne x bl hf e.symm)).drop lawS (fun _ _ => eS_inj) undEn (a := x) (keyS hx) 0)
    have fin : Hid (∃ fb', En W6 eb fb' (updC C x (k, a, b) (-1)) (c + 1) ∧ EnGo w eb fb W6 fb') := by
      have := h.gone (x := x) (b := bl) (e := E) (d := (-1)) hf (by rw [hEe, hq]; omega) (by omega) (m := dnN ((fb x).map fun b => Value.map (some b)).isSome m) (by unfold dnN; split <;> omega) mvB (by rw [hEe]; exact hM5') mv6 hA6
      rw [hEe] at this
      refine ⟨_, this, ⟨(mvB.mono (E' := hasE eb fb) (fun k _ e => .inr ⟨x, e ▸ hf⟩)).trans' (mv6.mono (fun k _ e => .inl e)), fun j hj => ?_⟩⟩
      rcases hj with rfl | ⟨y, hy⟩
      · exact .inl (.inl rfl)
      · by_cases e2 : y = x
        · simp [e2] at hy
        · simp [e2] at hy; exact .inl (.inr ⟨y, hy⟩)
    obtain ⟨p0, p1, p2⟩ := x0
    obtain ⟨r0, r1, r2⟩ := x4
    obtain ⟨u0, u1, u2⟩ := x5
    have hwr : IntKind.i64.wrap 0 = 0 := by decide
    have hS : (W0.drew.cell? ⟨w.heap.size, 0, none⟩ = some (.int .i64 k) ∧ W0.drew.cell? ⟨w.heap.size, 1, none⟩ = some (.string a) ∧ W0.drew.cell? ⟨w.heap.size, 2, none⟩ = some (.string b)) ∧ (Instr.lookup 62 (.map (some bl)) (.agg #[.int .i64 k, .string a, .string b]) false).run Tryd.prog W0.drew = .ok (.int .i64 q) W0.drew := ⟨⟨p0, p1, p2⟩, hlk2⟩
    have hS3 : (W3.cell? ⟨w.heap.size, 0, none⟩ = some (.int .i64 k) ∧ W3.cell? ⟨w.heap.size, 1, none⟩ = some (.string a) ∧ W3.cell? ⟨w.heap.size, 2, none⟩ = some (.string b)) ∧ (Instr.lookup 62 (.map (some bl)) (.agg #[.int .i64 k, .string a, .string b]) false).run Tryd.prog W3 = .ok (.int .i64 q) W3 := ⟨⟨x3.c0, x3.c1, x3.c2⟩, hlk3⟩
    clear h hf hA hA0 hM hM0 hM2d hM4 hEv hEe hq mv3 mv4 mvB hst x3 x2d b0 hlk2 hlk3 hm hn0 hE hM5 hM5' hA6 mv5 mv6 hu hu5 hs
    go_enter Tryd.func33, Tryd.ntmps33
    go_wp2_with (rw [hW0])
    refine Zs.region (S := fun y => (y.cell? ⟨w.heap.size, 0, none⟩ = some (.int .i64 k) ∧ y.cell? ⟨w.heap.size, 1, none⟩ = some (.string a) ∧ y.cell? ⟨w.heap.size, 2, none⟩ = some (.string b)) ∧ (Instr.lookup 62 (.map (some bl)) (.agg #[.int .i64 k, .string a, .string b]) false).run Tryd.prog y = .ok (.int .i64 q) y) 7 (by kernel_rfl) ?_
    refine Zs.pure (i := 0) (oi := ⟨some 22, _, _, _, _, _⟩) (v := ?v0) rfl (by kernel_rfl) (by kernel_rfl) (by kernel_rfl) (by decide) (fun _ _ _ h => h) (Or.inl ⟨by rfl, ?hy0⟩) hS ?_
    case hy0 => (intro w hSw; (try dsimp only at hSw); go_simp; try with_reducible rfl)
    simp only [Act.put, List.setIfInBounds_toArray, List.set_cons_zero, List.set_cons_succ]
    refine Zs.take (i := 1) (oi := ⟨some 23, _, _, _, _, _⟩) (v := ?v1) rfl (by kernel_rfl) (by kernel_rfl) (by kernel_rfl) (by decide) (by kernel_rfl) (by kernel_rfl) (fun _ _ _ h => h) (Or.inl ⟨by rfl, ?hy1⟩) hS ?_
    case hy1 => (intro w hSw; (try dsimp only at hSw); go_simp; try with_reducible rfl)
    simp only [Act.put, List.setIfInBounds_toArray, List.set_cons_zero, List.set_cons_succ]
    refine Zs.take (i := 2) (oi := ⟨some 24, _, _, _, _, _⟩) (v := ?v2) rfl (by kernel_rfl) (by kernel_rfl) (by kernel_rfl) (by decide) (by kernel_rfl) (by kernel_rfl) (fun _ _ _ h => h) (Or.inl ⟨by rfl, ?hy2⟩) hS ?_
    case hy2 => (intro w hSw; (try dsimp only at hSw); go_simp; try with_reducible rfl)
    simp only [Act.put, List.setIfInBounds_toArray, List.set_cons_zero, List.set_cons_succ]
    refine Zs.pure (i := 3) (oi := ⟨some 25, _, _, _, _, _⟩) (v := ?v3) rfl (by kernel_rfl) (by kernel_rfl) (by kernel_rfl) (by decide) (fun _ _ _ h => h) (Or.inl ⟨by rfl, ?hy3⟩) hS ?_
    case hy3 => (intro w hSw; (try dsimp only at hSw); go_simp; try with_reducible rfl)
    simp only [Act.put, List.setIfInBounds_toArray, List.set_cons_zero, List.set_cons_succ]
    refine Zs.pure (i := 4) (oi := ⟨some 26, _, _, _, _, _⟩) (v := ?v4) rfl (by kernel_rfl) (by kernel_rfl) (by kernel_rfl) (by decide) (fun _ _ _ h => h) (Or.inl ⟨by rfl, ?hy4⟩) hS ?_
    case hy4 => (intro w hSw; (try dsimp only at hSw); go_simp; try with_reducible rfl)
    simp only [Act.put, List.setIfInBounds_toArray, List.set_cons_zero, List.set_cons_succ]
    refine Zs.one (i := 5) (oi := ⟨some 27, _, _, _, _, _⟩) (by kernel_rfl) rfl (fun K hK => ?_)
    go_simp
    refine hK.out _ _ (fun _ => hS3) ?_
    clear hK K
    try simp only [Act.put, List.setIfInBounds_toArray, List.set_cons_zero, List.set_cons_succ]
    refine Zs.pure (i := 6) (oi := ⟨some 28, _, _, _, _, _⟩) (v := ?v6) rfl (by kernel_rfl) (by kernel_rfl) (by kernel_rfl) (by decide) (fun _ _ _ h => h) (Or.inl ⟨by rfl, ?hy6⟩) hS3 ?_
    case hy6 => (intro w hSw; (try dsimp only at hSw); go_simp; try with_reducible rfl)
    simp only [Act.put, List.setIfInBounds_toArray, List.set_cons_zero, List.set_cons_succ]
    refine Zs.one (i := 7) (oi := ⟨none, _, _, _, _, _⟩) (by kernel_rfl) rfl (fun K hK => ?_)
    go_simp
    refine hK.out _ _ (fun q => absurd q (by decide)) ?_
    clear hK K
    try simp only [Act.put, List.setIfInBounds_toArray, List.set_cons_zero, List.set_cons_succ]
    refine Zs.done (by kernel_rfl) ?_ _
    go_wp2_with fail
    refine bodyPost_end (v := .tuple #[]) (by simp [results, Tryd.results33, go_sem]) rfl ?_
    exact ⟨rfl, fin.out⟩
  · have fin : Hid (∃ fb', En W5 eb fb' (updC C x (k, a, b) (-1)) (c + 1) ∧ EnGo w eb fb W5 fb') := by
      have := h.put (x := x) (b := bl) (e := E) (d := (-1)) (n := n - 1) hf (by omega) (by omega) (by rw [hEe, hq]; omega) (by omega) mvB (by rw [hEe]; exact hM5')
      rw [hEe] at this
      exact ⟨fb, this, ⟨mvB.mono (fun k _ e => .inr ⟨x, e ▸ hf⟩), fun _ h => .inl h⟩⟩
    have t2 : (((n - 1 : Nat) : Int) == 0) = false := by rw [beq_eq_false_iff_ne]; omega
    obtain ⟨p0, p1, p2⟩ := x0
    obtain ⟨r0, r1, r2⟩ := x4
    obtain ⟨u0, u1, u2⟩ := x5
    have hwr : IntKind.i64.wrap 0 = 0 := by decide
    have hS : (W0.drew.cell? ⟨w.heap.size, 0, none⟩ = some (.int .i64 k) ∧ W0.drew.cell? ⟨w.heap.size, 1, none⟩ = some (.string a) ∧ W0.drew.cell? ⟨w.heap.size, 2, none⟩ = some (.string b)) ∧ (Instr.lookup 62 (.map (some bl)) (.agg #[.int .i64 k, .string a, .string b]) false).run Tryd.prog W0.drew = .ok (.int .i64 q) W0.drew := ⟨⟨p0, p1, p2⟩, hlk2⟩
    have hS3 : (W3.cell? ⟨w.heap.size, 0, none⟩ = some (.int .i64 k) ∧ W3.cell? ⟨w.heap.size, 1, none⟩ = some (.string a) ∧ W3.cell? ⟨w.heap.size, 2, none⟩ = some (.string b)) ∧ (Instr.lookup 62 (.map (some bl)) (.agg #[.int .i64 k, .string a, .string b]) false).run Tryd.prog W3 = .ok (.int .i64 q) W3 := ⟨⟨x3.c0, x3.c1, x3.c2⟩, hlk3⟩
    clear h hf hA hA0 hM hM0 hM2d hM4 hEv hEe hq mv3 mv4 mvB hst x3 x2d b0 hlk2 hlk3 hm hn0 hE hM5 hM5' mv5 hu hu5 hs
    go_enter Tryd.func33, Tryd.ntmps33
    go_wp2_with (rw [hW0])
    refine Zs.region (S := fun y => (y.cell? ⟨w.heap.size, 0, none⟩ = some (.int .i64 k) ∧ y.cell? ⟨w.heap.size, 1, none⟩ = some (.string a) ∧ y.cell? ⟨w.heap.size, 2, none⟩ = some (.string b)) ∧ (Instr.lookup 62 (.map (some bl)) (.agg #[.int .i64 k, .string a, .string b]) false).run Tryd.prog y = .ok (.int .i64 q) y) 7 (by kernel_rfl) ?_
    refine Zs.pure (i := 0) (oi := ⟨some 22, _, _, _, _, _⟩) (v := ?v0) rfl (by kernel_rfl) (by kernel_rfl) (by kernel_rfl) (by decide) (fun _ _ _ h => h) (Or.inl ⟨by rfl, ?hy0⟩) hS ?_
    case hy0 => (intro w hSw; (try dsimp only at hSw); go_simp; try with_reducible rfl)
    simp only [Act.put, List.setIfInBounds_toArray, List.set_cons_zero, List.set_cons_succ]
    refine Zs.take (i := 1) (oi := ⟨some 23, _, _, _, _, _⟩) (v := ?v1) rfl (by kernel_rfl) (by kernel_rfl) (by kernel_rfl) (by decide) (by kernel_rfl) (by kernel_rfl) (fun _ _ _ h => h) (Or.inl ⟨by rfl, ?hy1⟩) hS ?_
    case hy1 => (intro w hSw; (try dsimp only at hSw); go_simp; try with_reducible rfl)
    simp only [Act.put, List.setIfInBounds_toArray, List.set_cons_zero, List.set_cons_succ]
    refine Zs.take (i := 2) (oi := ⟨some 24, _, _, _, _, _⟩) (v := ?v2) rfl (by kernel_rfl) (by kernel_rfl) (by kernel_rfl) (by decide) (by kernel_rfl) (by kernel_rfl) (fun _ _ _ h => h) (Or.inl ⟨by rfl, ?hy2⟩) hS ?_
    case hy2 => (intro w hSw; (try dsimp only at hSw); go_simp; try with_reducible rfl)
    simp only [Act.put, List.setIfInBounds_toArray, List.set_cons_zero, List.set_cons_succ]
    refine Zs.pure (i := 3) (oi := ⟨some 25, _, _, _, _, _⟩) (v := ?v3) rfl (by kernel_rfl) (by kernel_rfl) (by kernel_rfl) (by decide) (fun _ _ _ h => h) (Or.inl ⟨by rfl, ?hy3⟩) hS ?_
    case hy3 => (intro w hSw; (try dsimp only at hSw); go_simp; try with_reducible rfl)
    simp only [Act.put, List.setIfInBounds_toArray, List.set_cons_zero, List.set_cons_succ]
    refine Zs.pure (i := 4) (oi := ⟨some 26, _, _, _, _, _⟩) (v := ?v4) rfl (by kernel_rfl) (by kernel_rfl) (by kernel_rfl) (by decide) (fun _ _ _ h => h) (Or.inl ⟨by rfl, ?hy4⟩) hS ?_
    case hy4 => (intro w hSw; (try dsimp only at hSw); go_simp; try with_reducible rfl)
    simp only [Act.put, List.setIfInBounds_toArray, List.set_cons_zero, List.set_cons_succ]
    refine Zs.one (i := 5) (oi := ⟨some 27, _, _, _, _, _⟩) (by kernel_rfl) rfl (fun K hK => ?_)
    go_simp
    refine hK.out _ _ (fun _ => hS3) ?_
    clear hK K
    try simp only [Act.put, List.setIfInBounds_toArray, List.set_cons_zero, List.set_cons_succ]
    refine Zs.pure (i := 6) (oi := ⟨some 28, _, _, _, _, _⟩) (v := ?v6) rfl (by kernel_rfl) (by kernel_rfl) (by kernel_rfl) (by decide) (fun _ _ _ h => h) (Or.inl ⟨by rfl, ?hy6⟩) hS3 ?_
    case hy6 => (intro w hSw; (try dsimp only at hSw); go_simp; try with_reducible rfl)
    simp only [Act.put, List.setIfInBounds_toArray, List.set_cons_zero, List.set_cons_succ]
    refine Zs.one (i := 7) (oi := ⟨none, _, _, _, _, _⟩) (by kernel_rfl) rfl (fun K hK => ?_)
    go_simp
    refine hK.out _ _ (fun q => absurd q (by decide)) ?_
    clear hK K
    try simp only [Act.put, List.setIfInBounds_toArray, List.set_cons_zero, List.set_cons_succ]
    refine Zs.done (by kernel_rfl) ?_ _
    go_wp2_with fail
    refine bodyPost_end (v := .tuple #[]) (by simp [results, Tryd.results33, go_sem]) rfl ?_
    exact ⟨rfl, fin.out⟩
end Go.Proofs.YtcfclknfnadgcaaDoor
/- (graph.ends).count, whole. -/
namespace Go.Proofs.YtcfclknfnadgcaaDoor
open Go.RowKit Go.Shelf Go.Lib
theorem ecount_any {w : World} {eb : Nat} {fb : ByteArray → Option Nat} {C : ByteArray → Ed → Int} {c : Nat} (h : En w eb fb C c) (x : ByteArray) (e : Ed) (he : okE e) {d : Int} (hd : d = 1 ∨ (d = -1 ∧ 1 ≤ C x e)) (hx : x.size ≤ 1000) (hc : c ≤ 900000) :
    Calls Tryd.prog 33 #[.map (some eb), .string x, edV e, .int .i64 d] w fun r w' => r = .returned (.tuple #[]) ∧ ∃ fb', En w' eb fb' (updC C x e d) (c + 1) ∧ EnGo w eb fb w' fb' := by
  obtain ⟨k, a, b⟩ := e
  rcases hd with rfl | ⟨rfl, h1⟩
  · cases hf : fb x with
    | none => exact ecount_new h x k a b he hf hx hc
    | some bl => exact ecount_more h x k a b he hf hx hc
  · cases hf : fb x with
    | none => have := h.non x hf (k, a, b); omega
    | some bl =>
      by_cases h2 : C x (k, a, b) = 1
      · exact ecount_last h x k a b he hf h2 hx hc
      · exact ecount_less h x k a b he hf (by omega) hx hc
end Go.Proofs.YtcfclknfnadgcaaDoor
