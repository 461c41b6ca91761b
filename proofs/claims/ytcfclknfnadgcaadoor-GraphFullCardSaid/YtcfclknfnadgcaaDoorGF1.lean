/- Contracts of (graph.ends).count: an edge is told of once more, or once less. -/
import Derived.Test.YtcfclknfnadgcaaDoorGE
namespace Go.Proofs.YtcfclknfnadgcaaDoor
open Go.RowKit Go.Shelf Go.Lib
theorem zeroI (w : World) : (zeroValue 3).run Tryd.prog w = .ok (.int .i64 0) w := by kernel_rfl
theorem zeroMe (w : World) : (zeroValue 62).run Tryd.prog w = .ok (.map none) w := by kernel_rfl
theorem undEn : Tryd.prog.underlying 51 = some (.map 9 62) := Tryd.underlying51
theorem undMe : Tryd.prog.underlying 62 = some (.map 37 3) := Tryd.underlying62
theorem cfS_get (C : Ed → Int) (e : EK) : (cfS C e).getD (.int .i64 0) = .int .i64 (C e.1) := by
  unfold cfS
  split
  · next h => rw [h]; rfl
  · rfl
theorem cfS_some (C : Ed → Int) (e : EK) : (cfS C e).isSome = decide (C e.1 ≠ 0) := by
  unfold cfS
  split
  · next h => simp [h]
  · next h => simp [h]
theorem i64w (x : Int) (h : 0 ≤ x) (h' : x ≤ 9223372036854775807) : IntKind.i64.wrap x = x := by
  show (if (true && decide (x % 18446744073709551616 ≥ 9223372036854775808)) = true then x % 18446744073709551616 - 18446744073709551616 else x % 18446744073709551616) = x
  have e : x % 18446744073709551616 = x := Int.emod_eq_of_lt h (by omega)
  rw [e]
  simp
  omega
/-- The edge in a block of its own. -/
structure Bx (k : Int) (a b : ByteArray) (n : Nat) (w : World) : Prop where
  c0 : w.cell? ⟨n, 0, none⟩ = some (.int .i64 k)
  c1 : w.cell? ⟨n, 1, none⟩ = some (.string a)
  c2 : w.cell? ⟨n, 2, none⟩ = some (.string b)
theorem Bx.mk' {k : Int} {a b : ByteArray} (w : World) (t : TypeId) : Bx k a b w.heap.size (w.alloc (.cells #[.int .i64 k, .string a, .string b] t)) := ⟨cell_at rfl rfl, cell_at rfl rfl, cell_at rfl rfl⟩
theorem Bx.mv {k : Int} {a b : ByteArray} {n : Nat} {w w' : World} {E : Nat → Prop} (h : Bx k a b n w) (m : Mv E w w') (hE : ¬ E n) : Bx k a b n w' := ⟨m.cell (a := ⟨n, 0, none⟩) hE h.c0, m.cell (a := ⟨n, 1, none⟩) hE h.c1, m.cell (a := ⟨n, 2, none⟩) hE h.c2⟩
set_option maxRecDepth 100000 in
set_option maxHeartbeats 4000000 in
theorem ecount_new {w : World} {eb : Nat} {fb : ByteArray → Option Nat} {C : ByteArray → Ed → Int} {c : Nat} (h : En w eb fb C c) (x : ByteArray) (k : Int) (a b : ByteArray) (he : okE (k, a, b)) (hf : fb x = none) (hx : x.size ≤ 1000) (hc : c ≤ 900000) :
    Calls Tryd.prog 33 #[.map (some eb), .string x, .agg #[.int .i64 k, .string a, .string b], .int .i64 1] w fun r w' => r = .returned (.tuple #[]) ∧ ∃ fb', En w' eb fb' (updC C x (k, a, b) 1) (c + 1) ∧ EnGo w eb fb w' fb' := by
  obtain ⟨m, hm, hA⟩ := h.all
  obtain ⟨E, hE⟩ : ∃ E : EK, E = ⟨(k, a, b), he⟩ := ⟨_, rfl⟩
  have hEv : edV E.1 = .agg #[.int .i64 k, .string a, .string b] := by rw [hE]; rfl
  have hz : C x (k, a, b) = 0 := h.non x hf _
  obtain ⟨W0, hW0⟩ : ∃ W0, w.alloc (.cells #[.int .i64 k, .string a, .string b] 37) = W0 := ⟨_, rfl⟩
  have b0 : Below w.heap.size w W0 := by rw [← hW0]; exact (Below.refl _ _).alloc (Nat.le_refl _) _
  have s0 : W0.heap.size = w.heap.size + 1 := by rw [← hW0]; simp
  have x0 : Bx k a b w.heap.size W0 := by rw [← hW0]; exact Bx.mk' _ _
  have hA0 := hA.mv (Mv.below (E := fun _ => False) b0) (fun h => h)
  have hlk := hA0.look lawS undEn (zeroMe W0) (a := x) (keyS hx)
  rw [hf] at hlk
  simp only [Option.map_none, Option.getD_none, Option.isSome_none] at hlk
  obtain ⟨W1, hW1⟩ : ∃ W1, W0.alloc (.map #[] 0) = W1 := ⟨_, rfl⟩
  have hmk : (Instr.makeMap 62 none).run Tryd.prog W0 = .ok (.map (some (w.heap.size + 1))) W1 := by
    have := run_makeMap (P := Tryd.prog) 62 W0
    rw [s0, hW1] at this
    exact this
  have b1 : Below W0.heap.size W0 W1 := by rw [← hW1]; exact (Below.refl _ _).alloc (Nat.le_refl _) _
  have s1 : W1.heap.size = w.heap.size + 2 := by rw [← hW1]; simp [s0]
  have x1 := x0.mv (Mv.below (E := fun _ => False) b1) (fun h => h)
  have hM1 : ME W1 (w.heap.size + 1) 0 fun _ => none := by rw [← hW1, ← s0]; exact ME.made _
  obtain ⟨W2, hup, hA2, mv2⟩ := (hA0.mv (Mv.below (E := fun _ => False) b1) (fun h => h)).store lawS (fun _ _ => eS_inj) klS undEn (a := x) (keyS hx) (.map (some (w.heap.size + 1))) (by unfold maxLen; omega)
  have leb := h.lt (.inl rfl)
  have hM2 := hM1.mv mv2 (by omega)
  have x2 := x1.mv mv2 (by show ¬ w.heap.size = eb; omega)
  have hM2d := hM2.mv (Mv.drew (fun _ => False) W2) (fun h => h)
  have x2d := x2.mv (Mv.drew (fun _ => False) W2) (fun h => h)
  obtain ⟨W3, st, hen, mv3, hlk3, hst⟩ := hM2d.entry undMe zeroI E (by unfold maxLen; omega)
  have hlk2 := hM2d.look1 lawE undMe (zeroI _) (a := E) (keyE E)
  obtain ⟨W4, hst4, hM4, mv4⟩ := hst (.int .i64 1)
  rw [hEv] at hen hlk3 hlk2
  simp only [Option.getD_none] at hen hlk3 hlk2
  have x3 := x2d.mv mv3 (by show ¬ w.heap.size = w.heap.size + 1; omega)
  have x4 := x2d.mv mv4 (by show ¬ w.heap.size = w.heap.size + 1; omega)
  have hM4' : ME W4 (w.heap.size + 1) 1 (cfS (updC C x (k, a, b) 1 x)) := hM4.cong (fun f => by
    have := cfS_upd (C := C) (x := x) (e := E) (d := 1) (by rw [hE, hz]; decide) f
    rw [hE] at this ⊢
    rw [this, hz]
    split
    · rfl
    · unfold cfS; rw [h.non x hf]; rfl)
  have hlk4 := hM4'.look1 lawE undMe (zeroI _) (a := E) (keyE E)
  rw [cfS_get, hEv] at hlk4
  have hv4 : updC C x (k, a, b) 1 x E.1 = 1 := by rw [hE]; unfold updC; simp [hz]
  rw [hv4] at hlk4
  have hln4 := hM4'.len undMe 3
  have fin : Hid (∃ fb', En W4 eb fb' (updC C x (k, a, b) 1) (c + 1) ∧ EnGo w eb fb W4 fb') := by
    have mvA : Mv (fun k => k = eb) w W2 := ((Mv.below b0).trans' (Mv.below b1)).trans' mv2
    have mvB : Mv (fun k => k = w.heap.size + 1) W2 W4 := (Mv.drew _ _).trans' mv4
    have := h.make (x := x) (b := w.heap.size + 1) (e := E) (m := upN ((fb x).map fun b => Value.map (some b)).isSome m) hf (by unfold upN; split <;> omega) (by omega) mvA hA2 mvB (by rw [hE]; exact hM4')
    rw [hE] at this
    refine ⟨_, this, ⟨(mvA.mono (fun k _ e => .inl e)).trans (E' := fun k => k = w.heap.size + 1) (fun k e => .inr (by omega)) mvB, fun q hq => ?_⟩⟩
    rcases hq with rfl | ⟨y, hy⟩
    · exact .inl (.inl rfl)
    · by_cases e2 : y = x
      · simp [e2] at hy; exact .inr (by omega)
      · simp [e2] at hy; exact .inl (.inr ⟨y, hy⟩)
  obtain ⟨p0, p1, p2⟩ := x2
  obtain ⟨r0, r1, r2⟩ := x4
  have hwr : IntKind.i64.wrap 1 = 1 := by decide
  have hS : (W2.drew.cell? ⟨w.heap.size, 0, none⟩ = some (.int .i64 k) ∧ W2.drew.cell? ⟨w.heap.size, 1, none⟩ = some (.string a) ∧ W2.drew.cell? ⟨w.heap.size, 2, none⟩ = some (.string b)) ∧ (Instr.lookup 62 (.map (some (w.heap.size + 1))) (.agg #[.int .i64 k, .string a, .string b]) false).run Tryd.prog W2.drew = .ok (.int .i64 0) W2.drew := ⟨⟨p0, p1, p2⟩, hlk2⟩
  have hS3 : (W3.cell? ⟨w.heap.size, 0, none⟩ = some (.int .i64 k) ∧ W3.cell? ⟨w.heap.size, 1, none⟩ = some (.string a) ∧ W3.cell? ⟨w.heap.size, 2, none⟩ = some (.string b)) ∧ (Instr.lookup 62 (.map (some (w.heap.size + 1))) (.agg #[.int .i64 k, .string a, .string b]) false).run Tryd.prog W3 = .ok (.int .i64 0) W3 := ⟨⟨x3.c0, x3.c1, x3.c2⟩, hlk3⟩
  clear h hf hA hA0 hEv hM1 hM2 hM2d hM4 hM4' hA2 mv2 mv3 mv4 hst x0 x1 x3 x2d b0 b1 hlk2 hlk3 hv4 hz hm
  go_enter Tryd.func33, Tryd.ntmps33
  go_wp2_with (first | rw [hW0] | (rw [s0]; rw [hW1]) | rw [hW1])
  refine Zs.region (S := fun y => (y.cell? ⟨w.heap.size, 0, none⟩ = some (.int .i64 k) ∧ y.cell? ⟨w.heap.size, 1, none⟩ = some (.string a) ∧ y.cell? ⟨w.heap.size, 2, none⟩ = some (.string b)) ∧ (Instr.lookup 62 (.map (some (w.heap.size + 1))) (.agg #[.int .i64 k, .string a, .string b]) false).run Tryd.prog y = .ok (.int .i64 0) y) 7 (by kernel_rfl) ?_
  refine Zs.pure (i := 0) (oi := ⟨some 22, _, _, _, _, _⟩) (v := ?v0) rfl (by kernel_rfl) (by kernel_rfl) (by kernel_rfl) (by decide) (fun _ _ _ h => h) (Or.inl ⟨by rfl, ?hy0⟩) hS ?_
  case hy0 => (intro w hSw; (try dsimp only at hSw); go_simp; try with_reducible rfl)
  simp only [Act.put, List.setIfInBounds_toArray, List.set_cons_zero, List.set_cons_succ]
  refine Zs.take (i := 1) (oi := ⟨some 23, _, _, _, _, _⟩) (v := ?v1) rfl (by kernel_rfl) (by kernel_rfl) (by kernel_rfl) (by decide) (by kernel_rfl) (by kernel_rfl) (fun _ _ _ h => h) (Or.inl ⟨by rfl, ?hy1⟩) hS ?_
  case hy1 => (intro w hSw; (try dsimp only at hSw); go_simp; try with_reducible rfl)
  simp only [Act.put, List.setIfInBounds_toArray, List.set_cons_zero, List.set_cons_succ]
  refine Zs.take (i := 2) (oi := ⟨some 24, _, _, _, _, _⟩) (v := ?v2) rfl (by kernel_rfl) (by kernel_rfl) (by kernel_rfl) (by decide) (by kernel_rfl) (by kernel_rfl) (fun _ _ _ h => h) (Or.inl ⟨by rfl, ?hy2⟩) hS ?_
  case hy2 => (intro w hSw; (try dsimp only at hSw); go_simp; try with_reducible rfl)
  simp only [Act.put, List.setIfInBounds_toArray, List.set_cons_zero, List.set_cons_succ]
  refine Zs.pure (i := 3) (oi := ⟨some 25, _, _, _, _, _⟩) (v := ?v3) rfl (by kernel_rfl) (by kernel_rfl) (by kernel_rfl) (by decide) (fun _ _ _ h => h) (Or.inl ⟨by rfl, ?hy3⟩) hS ?_
  case hy3 => (intro w hSw; (try dsimp only at hSw); go_simp; try with_reducible rfl)
  simp only [Act.put, List.setIfInBounds_toArray, List.set_cons_zero, List.set_cons_succ]
  refine Zs.pure (i := 4) (oi := ⟨some 26, _, _, _, _, _⟩) (v := ?v4) rfl (by kernel_rfl) (by kernel_rfl) (by kernel_rfl) (by decide) (fun _ _ _ h => h) (Or.inl ⟨by rfl, ?hy4⟩) hS ?_
  case hy4 => (intro w hSw; (try dsimp only at hSw); go_simp; try with_reducible rfl)
  simp only [Act.put, List.setIfInBounds_toArray, List.set_cons_zero, List.set_cons_succ]
  refine Zs.one (i := 5) (oi := ⟨some 27, _, _, _, _, _⟩) (by kernel_rfl) rfl (fun K hK => ?_)
  go_simp
  refine hK.out _ _ (fun _ => hS3) ?_
  clear hK K
  try simp only [Act.put, List.setIfInBounds_toArray, List.set_cons_zero, List.set_cons_succ]
  refine Zs.pure (i := 6) (oi := ⟨some 28, _, _, _, _, _⟩) (v := ?v6) rfl (by kernel_rfl) (by kernel_rfl) (by kernel_rfl) (by decide) (fun _ _ _ h => h) (Or.inl ⟨by rfl, ?hy6⟩) hS3 ?_
  case hy6 => (intro w hSw; (try dsimp only at hSw); go_simp; try with_reducible rfl)
  simp only [Act.put, List.setIfInBounds_toArray, List.set_cons_zero, List.set_cons_succ]
  refine Zs.one (i := 7) (oi := ⟨none, _, _, _, _, _⟩) (by kernel_rfl) rfl (fun K hK => ?_)
  go_simp
  refine hK.out _ _ (fun q => absurd q (by decide)) ?_
  clear hK K
  try simp only [Act.put, List.setIfInBounds_toArray, List.set_cons_zero, List.set_cons_succ]
  refine Zs.done (by kernel_rfl) ?_ _
  go_wp2_with fail
  refine bodyPost_end (v := .tuple #[]) (by simp [results, Tryd.results33, go_sem]) rfl ?_
  exact ⟨rfl, fin.out⟩
end Go.Proofs.YtcfclknfnadgcaaDoor
