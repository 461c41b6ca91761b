import Derived.Test.YtedgnigogkmgkaaGreatDoorBaa
import Derived.Test.YtedgnigogkmgkaaGreatDoorNB0
import Derived.Test.YtedgnigogkmgkaaGreatDoorGP
import Derived.Test.YtedgnigogkmgkaaGreatDoorNM2
import Derived.Test.YtedgnigogkmgkaaGreatDoorZ0
import Derived.Test.YtedgnigogkmgkaaGreatDoorShelf
/- Contracts of (graph.ends).count, continued. -/
namespace Go.Proofs.YtedgnigogkmgkaaGreatDoor
open Go.RowKit Go.Shelf Go.Lib
set_option maxRecDepth 100000 in
set_option maxHeartbeats 4000000 in
theorem ecount_last {w : World} {eb : Nat} {fb : ByteArray → Option Nat} {C : ByteArray → Ed → Int} {c : Nat} (h : En w eb fb C c) (x : ByteArray) (k : Int) (a b : ByteArray) (he : okE (k, a, b)) {bl : Nat} (hf : fb x = some bl) (hC : C x (k, a, b) = 1) (hx : x.size ≤ 1000) (hc : c ≤ 900000) :
    Calls Tryz.prog 102 #[.map (some eb), .string x, .agg #[.int .i64 k, .string a, .string b], .int .i64 (-1)] w fun r w' => r = .returned (.tuple #[]) ∧ ∃ fb', En w' eb fb' (updC C x (k, a, b) (-1)) (c + 1) ∧ EnGo w eb fb w' fb' := by
  obtain ⟨m, hm, hA⟩ := h.all
  obtain ⟨n, hn, hn0, hM⟩ := h.sub x bl hf
  obtain ⟨E, hE⟩ : ∃ E : EK, E = ⟨(k, a, b), he⟩ := ⟨_, rfl⟩
  have hEv : edV E.1 = .agg #[.int .i64 k, .string a, .string b] := by rw [hE]; rfl
  have hEe : E.1 = (k, a, b) := by rw [hE]
  have hqb := h.bd x (k, a, b)
  obtain ⟨q, hq⟩ : ∃ q, C x (k, a, b) = q := ⟨_, rfl⟩
  rw [hq] at hqb hC
  obtain ⟨W0, hW0⟩ : ∃ W0, w.alloc (.cells #[.int .i64 k, .string a, .string b] 156) = W0 := ⟨_, rfl⟩
  have b0 : Below w.heap.size w W0 := by rw [← hW0]; exact (Below.refl _ _).alloc (Nat.le_refl _) _
  have x0 : Bx k a b w.heap.size W0 := by rw [← hW0]; exact Bx.mk' _ _
  have lbl : bl < w.heap.size := h.lt (.inr ⟨x, hf⟩)
  have hA0 := hA.mv (Mv.below (E := fun _ => False) b0) (fun h => h)
  have hM0 := hM.mv (Mv.below (E := fun _ => False) b0) (fun h => h)
  have hlk := hA0.look lawS undEn (zeroMe W0) (a := x) (keyS hx)
  rw [hf] at hlk
  simp only [Option.map_some, Option.getD_some, Option.isSome_some] at hlk
  have hM2d := hM0.mv (Mv.drew (fun _ => False) W0) (fun h => h)
  have x2d := x0.mv (Mv.drew (fun _ => False) W0) (fun h => h)
  obtain ⟨W3, st, hen, mv3, hlk3, hst⟩ := hM2d.entry undMe zeroI E (by unfold maxLen; omega)
  have hlk2 := hM2d.look1 lawE undMe (zeroI _) (a := E) (keyE E)
  obtain ⟨W4, hst4, hM4, mv4⟩ := hst (.int .i64 (q + (-1)))
  rw [hEv] at hen hlk3 hlk2
  rw [cfS_get, hEe, hq] at hen hlk3 hlk2
  have x3 := x2d.mv mv3 (by show ¬ w.heap.size = bl; omega)
  have x4 := x2d.mv mv4 (by show ¬ w.heap.size = bl; omega)
  have hlk4 := hM4.look1 lawE undMe (zeroI _) (a := E) (keyE E)
  rw [if_pos rfl, hEv] at hlk4
  simp only [Option.getD_some] at hlk4
  have hs : (cfS (C x) E).isSome = true := by rw [cfS_some, hEe, hq]; simp; omega
  rw [hs] at hM4
  have hu : upN true n = n := rfl
  rw [hu] at hM4
  have hq0 : q + (-1) = 0 := by omega
  obtain ⟨W5, hdl, hM5, mv5⟩ := hM4.drop lawE (fun _ _ => eE_inj) undMe (a := E) (keyE E) 0
  rw [hEv] at hdl
  simp only [if_true, Option.isSome_some] at hM5
  have hu5 : dnN true n = n - 1 := rfl
  rw [hu5] at hM5
  have hM5' : ME W5 bl (n - 1) (cfS (updC C x (k, a, b) (-1) x)) := hM5.cong (fun f => by
    have := cfS_zero (C := C) (x := x) (e := E) (d := (-1)) (by rw [hEe, hq]; omega) f
    rw [hEe] at this
    rw [this]
    by_cases e : f = E
    · rw [if_pos e, if_pos e]
    · rw [if_neg e, if_neg e, if_neg e])
  have hln5 := hM5'.len undMe 3
  have mvB : Mv (fun k => k = bl) w W5 := (((Mv.below b0).trans' (Mv.drew _ _)).trans' mv4).trans' mv5
  rw [hq0] at hst4 hlk4
  have x5 := x4.mv mv5 (by show ¬ w.heap.size = bl; omega)
  by_cases hn1 : n = 1
  · subst hn1
    simp only [Nat.sub_self] at hM5' hln5
    obtain ⟨W6, hdl6, hA6, mv6⟩ := ((hA.mv mvB (fun e => h.ne x bl hf e.symm)).drop lawS (fun _ _ => eS_inj) undEn (a := x) (keyS hx) 0)
    have fin : Hid (∃ fb', En W6 eb fb' (updC C x (k, a, b) (-1)) (c + 1) ∧ EnGo w eb fb W6 fb') := by
      have := h.gone (x := x) (b := bl) (e := E) (d := (-1)) hf (by rw [hEe, hq]; omega) (by omega) (m := dnN ((fb x).map fun b => Value.map (some b)).isSome m) (by unfold dnN; split <;> omega) mvB (by rw [hEe]; exact hM5') mv6 hA6
      rw [hEe] at this
      refine ⟨_, this, ⟨(mvB.mono (E' := hasE eb fb) (fun k _ e => .inr ⟨x, e ▸ hf⟩)).trans' (mv6.mono (fun k _ e => .inl e)), fun j hj => ?_⟩⟩
      rcases hj with rfl | ⟨y, hy⟩
      · exact .inl (.inl rfl)
      · by_cases e2 : y = x
        · simp [e2] at hy
        · simp [e2] at hy; exact .inl (.inr ⟨y, hy⟩)
    obtain ⟨p0, p1, p2⟩ := x0
    obtain ⟨r0, r1, r2⟩ := x4
    obtain ⟨u0, u1, u2⟩ := x5
    have hwr : IntKind.i64.wrap 0 = 0 := by decide
    have hS : (W0.drew.cell? ⟨w.heap.size, 0, none⟩ = some (.int .i64 k) ∧ W0.drew.cell? ⟨w.heap.size, 1, none⟩ = some (.string a) ∧ W0.drew.cell? ⟨w.heap.size, 2, none⟩ = some (.string b)) ∧ (Instr.lookup 154 (.map (some bl)) (.agg #[.int .i64 k, .string a, .string b]) false).run Tryz.prog W0.drew = .ok (.int .i64 q) W0.drew := ⟨⟨p0, p1, p2⟩, hlk2⟩
    have hS3 : (W3.cell? ⟨w.heap.size, 0, none⟩ = some (.int .i64 k) ∧ W3.cell? ⟨w.heap.size, 1, none⟩ = some (.string a) ∧ W3.cell? ⟨w.heap.size, 2, none⟩ = some (.string b)) ∧ (Instr.lookup 154 (.map (some bl)) (.agg #[.int .i64 k, .string a, .string b]) false).run Tryz.prog W3 = .ok (.int .i64 q) W3 := ⟨⟨x3.c0, x3.c1, x3.c2⟩, hlk3⟩
    clear h hf hA hA0 hM hM0 hM2d hM4 hEv hEe hq mv3 mv4 mvB hst x3 x2d b0 hlk2 hlk3 hm hn0 hE hM5 hM5' hA6 mv5 mv6 hu hu5 hs
    go_enter Tryz.func102, Tryz.ntmps102
    go_wp2_with (rw [hW0])
    refine Zs.region (S := fun y => (y.cell? ⟨w.heap.size, 0, none⟩ = some (.int .i64 k) ∧ y.cell? ⟨w.heap.size, 1, none⟩ = some (.string a) ∧ y.cell? ⟨w.heap.size, 2, none⟩ = some (.string b)) ∧ (Instr.lookup 154 (.map (some bl)) (.agg #[.int .i64 k, .string a, .string b]) false).run Tryz.prog y = .ok (.int .i64 q) y) 7 (by kernel_rfl) ?_
    refine Zs.pure (i := 0) (oi := ⟨some 22, _, _, _, _, _⟩) (v := ?v0) rfl (by kernel_rfl) (by kernel_rfl) (by kernel_rfl) (by decide) (fun _ _ _ h => h) (Or.inl ⟨by rfl, ?hy0⟩) hS ?_
    case hy0 => (intro w hSw; (try dsimp only at hSw); go_simp; try with_reducible rfl)
    simp only [Act.put, List.setIfInBounds_toArray, List.set_cons_zero, List.set_cons_succ]
    refine Zs.take (i := 1) (oi := ⟨some 23, _, _, _, _, _⟩) (v := ?v1) rfl (by kernel_rfl) (by kernel_rfl) (by kernel_rfl) (by decide) (by kernel_rfl) (by kernel_rfl) (fun _ _ _ h => h) (Or.inl ⟨by rfl, ?hy1⟩) hS ?_
    case hy1 => (intro w hSw; (try dsimp only at hSw); go_simp; try with_reducible rfl)
    simp only [Act.put, List.setIfInBounds_toArray, List.set_cons_zero, List.set_cons_succ]
    refine Zs.take (i := 2) (oi := ⟨some 24, _, _, _, _, _⟩) (v := ?v2) rfl (by kernel_rfl) (by kernel_rfl) (by kernel_rfl) (by decide) (by kernel_rfl) (by kernel_rfl) (fun _ _ _ h => h) (Or.inl ⟨by rfl, ?hy2⟩) hS ?_
    case hy2 => (intro w hSw; (try dsimp only at hSw); go_simp; try with_reducible rfl)
    simp only [Act.put, List.setIfInBounds_toArray, List.set_cons_zero, List.set_cons_succ]
    refine Zs.pure (i := 3) (oi := ⟨some 25, _, _, _, _, _⟩) (v := ?v3) rfl (by kernel_rfl) (by kernel_rfl) (by kernel_rfl) (by decide) (fun _ _ _ h => h) (Or.inl ⟨by rfl, ?hy3⟩) hS ?_
    case hy3 => (intro w hSw; (try dsimp only at hSw); go_simp; try with_reducible rfl)
    simp only [Act.put, List.setIfInBounds_toArray, List.set_cons_zero, List.set_cons_succ]
    refine Zs.pure (i := 4) (oi := ⟨some 26, _, _, _, _, _⟩) (v := ?v4) rfl (by kernel_rfl) (by kernel_rfl) (by kernel_rfl) (by decide) (fun _ _ _ h => h) (Or.inl ⟨by rfl, ?hy4⟩) hS ?_
    case hy4 => (intro w hSw; (try dsimp only at hSw); go_simp; try with_reducible rfl)
    simp only [Act.put, List.setIfInBounds_toArray, List.set_cons_zero, List.set_cons_succ]
    refine Zs.one (i := 5) (oi := ⟨some 27, _, _, _, _, _⟩) (by kernel_rfl) rfl (fun K hK => ?_)
    go_simp
    refine hK.out _ _ (fun _ => hS3) ?_
    clear hK K
    try simp only [Act.put, List.setIfInBounds_toArray, List.set_cons_zero, List.set_cons_succ]
    refine Zs.pure (i := 6) (oi := ⟨some 28, _, _, _, _, _⟩) (v := ?v6) rfl (by kernel_rfl) (by kernel_rfl) (by kernel_rfl) (by decide) (fun _ _ _ h => h) (Or.inl ⟨by rfl, ?hy6⟩) hS3 ?_
    case hy6 => (intro w hSw; (try dsimp only at hSw); go_simp; try with_reducible rfl)
    simp only [Act.put, List.setIfInBounds_toArray, List.set_cons_zero, List.set_cons_succ]
    refine Zs.one (i := 7) (oi := ⟨none, _, _, _, _, _⟩) (by kernel_rfl) rfl (fun K hK => ?_)
    go_simp
    refine hK.out _ _ (fun q => absurd q (by decide)) ?_
    clear hK K
    try simp only [Act.put, List.setIfInBounds_toArray, List.set_cons_zero, List.set_cons_succ]
    refine Zs.done (by kernel_rfl) ?_ _
    go_wp2_with fail
    refine bodyPost_end (v := .tuple #[]) (by simp [results, Tryz.results102, go_sem]) rfl ?_
    exact ⟨rfl, fin.out⟩
  · have fin : Hid (∃ fb', En W5 eb fb' (updC C x (k, a, b) (-1)) (c + 1) ∧ EnGo w eb fb W5 fb') := by
      have := h.put (x := x) (b := bl) (e := E) (d := (-1)) (n := n - 1) hf (by omega) (by omega) (by rw [hEe, hq]; omega) (by omega) mvB (by rw [hEe]; exact hM5')
      rw [hEe] at this
      exact ⟨fb, this, ⟨mvB.mono (fun k _ e => .inr ⟨x, e ▸ hf⟩), fun _ h => .inl h⟩⟩
    have t2 : (((n - 1 : Nat) : Int) == 0) = false := by rw [beq_eq_false_iff_ne]; omega
    obtain ⟨p0, p1, p2⟩ := x0
    obtain ⟨r0, r1, r2⟩ := x4
    obtain ⟨u0, u1, u2⟩ := x5
    have hwr : IntKind.i64.wrap 0 = 0 := by decide
    have hS : (W0.drew.cell? ⟨w.heap.size, 0, none⟩ = some (.int .i64 k) ∧ W0.drew.cell? ⟨w.heap.size, 1, none⟩ = some (.string a) ∧ W0.drew.cell? ⟨w.heap.size, 2, none⟩ = some (.string b)) ∧ (Instr.lookup 154 (.map (some bl)) (.agg #[.int .i64 k, .string a, .string b]) false).run Tryz.prog W0.drew = .ok (.int .i64 q) W0.drew := ⟨⟨p0, p1, p2⟩, hlk2⟩
    have hS3 : (W3.cell? ⟨w.heap.size, 0, none⟩ = some (.int .i64 k) ∧ W3.cell? ⟨w.heap.size, 1, none⟩ = some (.string a) ∧ W3.cell? ⟨w.heap.size, 2, none⟩ = some (.string b)) ∧ (Instr.lookup 154 (.map (some bl)) (.agg #[.int .i64 k, .string a, .string b]) false).run Tryz.prog W3 = .ok (.int .i64 q) W3 := ⟨⟨x3.c0, x3.c1, x3.c2⟩, hlk3⟩
    clear h hf hA hA0 hM hM0 hM2d hM4 hEv hEe hq mv3 mv4 mvB hst x3 x2d b0 hlk2 hlk3 hm hn0 hE hM5 hM5' mv5 hu hu5 hs
    go_enter Tryz.func102, Tryz.ntmps102
    go_wp2_with (rw [hW0])
    refine Zs.region (S := fun y => (y.cell? ⟨w.heap.size, 0, none⟩ = some (.int .i64 k) ∧ y.cell? ⟨w.heap.size, 1, none⟩ = some (.string a) ∧ y.cell? ⟨w.heap.size, 2, none⟩ = some (.string b)) ∧ (Instr.lookup 154 (.map (some bl)) (.agg #[.int .i64 k, .string a, .string b]) false).run Tryz.prog y = .ok (.int .i64 q) y) 7 (by kernel_rfl) ?_
    refine Zs.pure (i := 0) (oi := ⟨some 22, _, _, _, _, _⟩) (v := ?v0) rfl (by kernel_rfl) (by kernel_rfl) (by kernel_rfl) (by decide) (fun _ _ _ h => h) (Or.inl ⟨by rfl, ?hy0⟩) hS ?_
    case hy0 => (intro w hSw; (try dsimp only at hSw); go_simp; try with_reducible rfl)
    simp only [Act.put, List.setIfInBounds_toArray, List.set_cons_zero, List.set_cons_succ]
    refine Zs.take (i := 1) (oi := ⟨some 23, _, _, _, _, _⟩) (v := ?v1) rfl (by kernel_rfl) (by kernel_rfl) (by kernel_rfl) (by decide) (by kernel_rfl) (by kernel_rfl) (fun _ _ _ h => h) (Or.inl ⟨by rfl, ?hy1⟩) hS ?_
    case hy1 => (intro w hSw; (try dsimp only at hSw); go_simp; try with_reducible rfl)
    simp only [Act.put, List.setIfInBounds_toArray, List.set_cons_zero, List.set_cons_succ]
    refine Zs.take (i := 2) (oi := ⟨some 24, _, _, _, _, _⟩) (v := ?v2) rfl (by kernel_rfl) (by kernel_rfl) (by kernel_rfl) (by decide) (by kernel_rfl) (by kernel_rfl) (fun _ _ _ h => h) (Or.inl ⟨by rfl, ?hy2⟩) hS ?_
    case hy2 => (intro w hSw; (try dsimp only at hSw); go_simp; try with_reducible rfl)
    simp only [Act.put, List.setIfInBounds_toArray, List.set_cons_zero, List.set_cons_succ]
    refine Zs.pure (i := 3) (oi := ⟨some 25, _, _, _, _, _⟩) (v := ?v3) rfl (by kernel_rfl) (by kernel_rfl) (by kernel_rfl) (by decide) (fun _ _ _ h => h) (Or.inl ⟨by rfl, ?hy3⟩) hS ?_
    case hy3 => (intro w hSw; (try dsimp only at hSw); go_simp; try with_reducible rfl)
    simp only [Act.put, List.setIfInBounds_toArray, List.set_cons_zero, List.set_cons_succ]
    refine Zs.pure (i := 4) (oi := ⟨some 26, _, _, _, _, _⟩) (v := ?v4) rfl (by kernel_rfl) (by kernel_rfl) (by kernel_rfl) (by decide) (fun _ _ _ h => h) (Or.inl ⟨by rfl, ?hy4⟩) hS ?_
    case hy4 => (intro w hSw; (try dsimp only at hSw); go_simp; try with_reducible rfl)
    simp only [Act.put, List.setIfInBounds_toArray, List.set_cons_zero, List.set_cons_succ]
    refine Zs.one (i := 5) (oi := ⟨some 27, _, _, _, _, _⟩) (by kernel_rfl) rfl (fun K hK => ?_)
    go_simp
    refine hK.out _ _ (fun _ => hS3) ?_
    clear hK K
    try simp only [Act.put, List.setIfInBounds_toArray, List.set_cons_zero, List.set_cons_succ]
    refine Zs.pure (i := 6) (oi := ⟨some 28, _, _, _, _, _⟩) (v := ?v6) rfl (by kernel_rfl) (by kernel_rfl) (by kernel_rfl) (by decide) (fun _ _ _ h => h) (Or.inl ⟨by rfl, ?hy6⟩) hS3 ?_
    case hy6 => (intro w hSw; (try dsimp only at hSw); go_simp; try with_reducible rfl)
    simp only [Act.put, List.setIfInBounds_toArray, List.set_cons_zero, List.set_cons_succ]
    refine Zs.one (i := 7) (oi := ⟨none, _, _, _, _, _⟩) (by kernel_rfl) rfl (fun K hK => ?_)
    go_simp
    refine hK.out _ _ (fun q => absurd q (by decide)) ?_
    clear hK K
    try simp only [Act.put, List.setIfInBounds_toArray, List.set_cons_zero, List.set_cons_succ]
    refine Zs.done (by kernel_rfl) ?_ _
    go_wp2_with fail
    refine bodyPost_end (v := .tuple #[]) (by simp [results, Tryz.results102, go_sem]) rfl ?_
    exact ⟨rfl, fin.out⟩
end Go.Proofs.YtedgnigogkmgkaaGreatDoor
/- (graph.ends).count, whole. -/
namespace Go.Proofs.YtedgnigogkmgkaaGreatDoor
open Go.RowKit Go.Shelf Go.Lib
theorem ecount_any {w : World} {eb : Nat} {fb : ByteArray → Option Nat} {C : ByteArray → Ed → Int} {c : Nat} (h : En w eb fb C c) (x : ByteArray) (e : Ed) (he : okE e) {d : Int} (hd : d = 1 ∨ (d = -1 ∧ 1 ≤ C x e)) (hx : x.size ≤ 1000) (hc : c ≤ 900000) :
    Calls Tryz.prog 102 #[.map (some eb), .string x, edV e, .int .i64 d] w fun r w' => r = .returned (.tuple #[]) ∧ ∃ fb', En w' eb fb' (updC C x e d) (c + 1) ∧ EnGo w eb fb w' fb' := by
  obtain ⟨k, a, b⟩ := e
  rcases hd with rfl | ⟨rfl, h1⟩
  · cases hf : fb x with
    | none => exact ecount_new h x k a b he hf hx hc
    | some bl => exact ecount_more h x k a b he hf hx hc
  · cases hf : fb x with
    | none => have := h.non x hf (k, a, b); omega
    | some bl =>
      by_cases h2 : C x (k, a, b) = 1
      · exact ecount_last h x k a b he hf h2 hx hc
      · exact ecount_less h x k a b he hf (by omega) hx hc
end Go.Proofs.YtedgnigogkmgkaaGreatDoor
/- Rows of api.Edge in memory. -/
namespace Go.Proofs.YtedgnigogkmgkaaGreatDoor.Eg
open Go.RowKit Go.Shelf Go.Lib
def flat : List Ed → List Value
  | [] => []
  | x :: r => .int .i64 x.1 :: .string x.2.1 :: .string x.2.2 :: flat r
theorem flat_len : ∀ xs, (flat xs).length = xs.length * 3
  | [] => rfl
  | x :: r => by simp [flat, flat_len r]; omega
theorem flat_app : ∀ xs ys, flat (xs ++ ys) = flat xs ++ flat ys
  | [], _ => rfl
  | x :: r, ys => by simp [flat, flat_app r ys]
theorem flat_one : ∀ xs, ∀ u ∈ flat xs, u.oneCell' = true
  | [], u, h => by cases h
  | x :: r, u, h => by
    simp only [flat, List.mem_cons] at h
    rcases h with rfl | rfl | rfl | h
    · rfl
    · rfl
    · rfl
    · exact flat_one r u h
theorem flat_at : ∀ (xs : List Ed) (j : Nat) (x : Ed), xs[j]? = some x → (flat xs)[j * 3]? = some (.int .i64 x.1) ∧ (flat xs)[j * 3 + 1]? = some (.string x.2.1) ∧ (flat xs)[j * 3 + 2]? = some (.string x.2.2)
  | [], j, x, h => by cases h
  | y :: r, 0, x, h => by simp at h; subst h; exact ⟨rfl, rfl, rfl⟩
  | y :: r, j + 1, x, h => by
    have := flat_at r j x (by simpa using h)
    rw [show (j + 1) * 3 = j * 3 + 3 by omega, show j * 3 + 3 + 1 = j * 3 + 1 + 3 by omega, show j * 3 + 3 + 2 = j * 3 + 2 + 3 by omega]
    exact this
theorem infoT : ∃ i, Tryz.prog.info? 156 = some i ∧ i.zero = some (.agg #[.int .i64 0, .string ⟨#[]⟩, .string ⟨#[]⟩]) ∧ i.size = 3 ∧ i.bytes = 40 := by
  have h : (Tryz.prog.info? 156).map (fun i => (i.zero, i.size, i.bytes)) = some (some (.agg #[.int .i64 0, .string ⟨#[]⟩, .string ⟨#[]⟩]), 3, 40) := by kernel_rfl
  cases e : Tryz.prog.info? 156 with
  | none => rw [e] at h; cases h
  | some i => rw [e] at h; simp at h; exact ⟨i, rfl, h⟩

/-- The records xs lie in block g from o on. -/
def RA (w : World) (g o : Nat) (xs : List Ed) : Prop := ∀ j u, (flat xs)[j]? = some u → w.cell? ⟨g, o + j, none⟩ = some u
/-- There is room for cap records. -/
structure Rm (w : World) (g o cap : Nat) : Prop where
  lt : g < w.heap.size
  mx : cap ≤ maxLen
  so : ∀ j, j < cap * 3 → (w.cell? ⟨g, o + j, none⟩).isSome = true
  fz : ∀ j, j < cap * 3 → w.frozen? ⟨g, o + j, none⟩ = false
theorem RA.nil (w : World) (g o : Nat) : RA w g o [] := fun j u h => by cases h
theorem RA.cv {S : Nat → Nat → Prop} {w w' : World} {g o : Nat} {xs : List Ed} (h : RA w g o xs) (m : Cv S w w') (hn : ∀ j, o ≤ j → j < o + xs.length * 3 → ¬ S g j) : RA w' g o xs := fun j u hj => by
  have hl : j < xs.length * 3 := by rw [← flat_len]; exact (List.getElem?_eq_some_iff.1 hj).1
  exact m.cell (hn _ (by omega) (by omega)) (h j u hj)
theorem Rm.cv {S : Nat → Nat → Prop} {w w' : World} {g o cap : Nat} (h : Rm w g o cap) (m : Cv S w w') : Rm w' g o cap :=
  ⟨Nat.lt_of_lt_of_le h.lt m.size, h.mx, fun j hj => m.pr _ _ h.lt (h.so j hj), fun j hj => (m.fr _ _ h.lt).trans (h.fz j hj)⟩
theorem Rm.sub {w : World} {g o cap : Nat} (h : Rm w g o cap) {a c : Nat} (hc : a + c ≤ cap) : Rm w g (o + a * 3) c :=
  ⟨h.lt, Nat.le_trans (by omega) h.mx, fun j hj => by rw [Nat.add_assoc]; exact h.so _ (by omega), fun j hj => by rw [Nat.add_assoc]; exact h.fz _ (by omega)⟩
theorem RA.app {w : World} {g o : Nat} {xs ys : List Ed} : RA w g o (xs ++ ys) ↔ RA w g o xs ∧ RA w g (o + xs.length * 3) ys := by
  unfold RA
  rw [flat_app]
  constructor
  · intro h
    refine ⟨fun j u hj => h j u (by rw [List.getElem?_append_left (List.getElem?_eq_some_iff.1 hj).1]; exact hj), fun j u hj => ?_⟩
    rw [Nat.add_assoc]
    exact h _ u (by rw [List.getElem?_append_right (by rw [flat_len]; omega), flat_len, show xs.length * 3 + j - xs.length * 3 = j by omega]; exact hj)
  · rintro ⟨h1, h2⟩ j u hj
    rcases Nat.lt_or_ge j (xs.length * 3) with hl | hl
    · exact h1 j u (by rw [List.getElem?_append_left (by rw [flat_len]; exact hl)] at hj; exact hj)
    · rw [List.getElem?_append_right (by rw [flat_len]; exact hl), flat_len] at hj
      have := h2 _ u hj
      rw [Nat.add_assoc, show xs.length * 3 + (j - xs.length * 3) = j by omega] at this
      exact this
theorem RA.at {w : World} {g o : Nat} {xs : List Ed} (h : RA w g o xs) {j : Nat} {x : Ed} (hx : xs[j]? = some x) :
    w.cell? ⟨g, o + j * 3, none⟩ = some (.int .i64 x.1) ∧ w.cell? ⟨g, o + j * 3 + 1, none⟩ = some (.string x.2.1) ∧ w.cell? ⟨g, o + j * 3 + 2, none⟩ = some (.string x.2.2) := by
  obtain ⟨h1, h2, h3⟩ := flat_at xs j x hx
  exact ⟨h _ _ h1, h _ _ h2, h _ _ h3⟩
/-- A slice of records. -/
structure RS (w : World) (g o cap : Nat) (xs : List Ed) : Prop where
  le : xs.length ≤ cap
  rm : Rm w g o cap
  ra : RA w g o xs
abbrev slv (g o n cap : Nat) : Value := .slice (some ⟨g, o, none⟩) n cap
theorem RS.cv {S : Nat → Nat → Prop} {w w' : World} {g o cap : Nat} {xs : List Ed} (h : RS w g o cap xs) (m : Cv S w w') (hn : ∀ j, o ≤ j → j < o + xs.length * 3 → ¬ S g j) : RS w' g o cap xs := ⟨h.le, h.rm.cv m, h.ra.cv m hn⟩
theorem RS.own {w : World} {v : Value} {base : Nat} {e : TypeId} {xs : List Ed} (h : w.ownsRow base e 3 v xs.length (flat xs)) (h0 : xs ≠ []) : ∃ g cap, v = slv g 0 xs.length cap ∧ base ≤ g ∧ RS w g 0 cap xs := by
  rcases h.2 with ⟨rfl, h1⟩ | ⟨g, cap, cur, rfl, hb, hg, h1, h2, h3, h4⟩
  · exact absurd (List.eq_nil_of_length_eq_zero h1) h0
  · refine ⟨g, cap, rfl, hb, h1, ⟨(Array.getElem?_eq_some_iff.1 hg).1, h2, fun j hj => ?_, fun j hj => ?_⟩, fun j x hx => ?_⟩
    · unfold World.cell?
      rw [hg]
      have : j < cur.size := by rw [h3]; omega
      simp [this]
    · unfold World.frozen?
      rw [hg]
      simp
    · have := h.cells (g := g) rfl j x hx
      rw [Addr.add_lit] at this
      exact this
theorem app_room {w : World} {g o cap : Nat} {xs ys : List Ed} (h : RS w g o cap xs) {g2 o2 c2 : Nat} (hy : RA w g2 o2 ys) (hr : xs.length + ys.length ≤ cap) (ty : TypeId) :
    ∃ w', (Builtin.append_ #[117, 117] ty #[slv g o xs.length cap, slv g2 o2 ys.length c2]).run Tryz.prog w = .ok (slv g o (xs.length + ys.length) cap) w' ∧ RS w' g o cap (xs ++ ys) ∧ Cv (fun k j => k = g ∧ o + xs.length * 3 ≤ j ∧ j < o + (xs.length + ys.length) * 3) w w' := by
  obtain ⟨i0, hi, hz0, hz1, hz2⟩ := infoT
  have hrun := run_append_room_cells (P := Tryz.prog) w 117 ty 156 _ Tryz.underlying117 hi g o xs.length cap ⟨g2, o2, none⟩ ys.length c2 (flat ys) (by rw [hz1, flat_len]) (fun j u hj => by rw [Addr.add_lit]; exact hy j u hj) (flat_one ys) hr (fun j hj => by rw [flat_len] at hj; rw [hz1, Nat.add_assoc]; exact h.rm.so _ (by omega)) (fun j hj => by rw [flat_len] at hj; rw [hz1, Nat.add_assoc]; exact h.rm.fz _ (by omega))
  rw [hz1] at hrun
  have hth : ∀ j, j < (flat ys).length → (w.cell? ⟨g, o + xs.length * 3 + j, none⟩).isSome = true := fun j hj => by rw [flat_len] at hj; rw [Nat.add_assoc]; exact h.rm.so _ (by omega)
  have m := Cv.cells w g (o + xs.length * 3) (flat ys)
  rw [flat_len] at m
  have m2 : Cv (fun k j => k = g ∧ o + xs.length * 3 ≤ j ∧ j < o + (xs.length + ys.length) * 3) w (w.setCells g (o + xs.length * 3) (flat ys)) := m.mono fun k j _ h => ⟨h.1, h.2.1, by have := h.2.2; omega⟩
  refine ⟨_, hrun, ⟨by rw [List.length_append]; exact hr, h.rm.cv m2, RA.app.2 ⟨h.ra.cv m2 (fun j _ hj q => by have := q.2.1; omega), fun j u hj => ?_⟩⟩, m2⟩
  obtain ⟨hlt, hge⟩ := List.getElem?_eq_some_iff.1 hj
  rw [World.cell?_setCells_in g _ _ w hth j hlt, hge]
theorem app_grow {w : World} {g o cap : Nat} {xs ys : List Ed} (h : RS w g o cap xs) {g2 o2 c2 : Nat} (hy : RA w g2 o2 ys) (hr : cap < xs.length + ys.length) (hx : xs.length ≤ 1000000) (hyl : ys.length ≤ 1000000) (ty : TypeId) :
    ∃ g' c' w', (Builtin.append_ #[117, 117] ty #[slv g o xs.length cap, slv g2 o2 ys.length c2]).run Tryz.prog w = .ok (slv g' 0 (xs.length + ys.length) c') w' ∧ w.heap.size ≤ g' ∧ RS w' g' 0 c' (xs ++ ys) ∧ Below w.heap.size w w' := by
  obtain ⟨i0, hi, hz0, hz1, hz2⟩ := infoT
  obtain ⟨v', w', hrun, ho, hgr⟩ := run_append_arg_grows (P := Tryz.prog) w 117 ty 156 _ _ 3 40 Tryz.underlying117 hi hz0 hz1 hz2 rfl (by decide) ⟨g, o, none⟩ xs.length cap (flat xs) (flat_len xs) (fun j u hj => by rw [Addr.add_lit]; exact h.ra j u hj) ⟨g2, o2, none⟩ ys.length c2 (flat ys) (flat_len ys) (fun j u hj => by rw [Addr.add_lit]; exact hy j u hj) hr (by unfold maxLen; omega) (by omega)
  rw [← flat_app, ← List.length_append] at ho
  obtain ⟨g', c', rfl, hb, hs⟩ := RS.own ho (by intro e; have := congrArg List.length e; rw [List.length_append, List.length_nil] at this; omega)
  rw [List.length_append] at hrun
  exact ⟨g', c', w', hrun, hb, hs, ((Mv.refl (fun _ => False) w).grown hgr (fun k e => by cases e)).toBelow (Nat.le_refl _) (fun _ _ h => h)⟩
theorem app_nil {w : World} {ys : List Ed} {g2 o2 c2 : Nat} (hy : RA w g2 o2 ys) (hy0 : ys ≠ []) (hyl : ys.length ≤ 1000000) (ty : TypeId) :
    ∃ g' c' w', (Builtin.append_ #[117, 117] ty #[.slice none 0 0, slv g2 o2 ys.length c2]).run Tryz.prog w = .ok (slv g' 0 ys.length c') w' ∧ w.heap.size ≤ g' ∧ RS w' g' 0 c' ys ∧ Below w.heap.size w w' := by
  obtain ⟨i0, hi, hz0, hz1, hz2⟩ := infoT
  obtain ⟨v', w', hrun, ho, hgr, _, hat⟩ := run_append_own_at (P := Tryz.prog) w w.heap.size 117 ty 156 _ _ 3 40 Tryz.underlying117 hi hz0 hz1 hz2 rfl (by decide) (.slice none 0 0) 0 [] (World.ownsRow_nil w _ _ _) ⟨g2, o2, none⟩ ys.length c2 (flat ys) (flat_len ys) (fun j u hj => by rw [Addr.add_lit]; exact hy j u hj) (flat_one ys) (by unfold maxLen; omega) (by omega) (Nat.le_refl _)
  rw [Nat.zero_add, List.nil_append] at ho
  obtain ⟨g', c', rfl, hb, hs⟩ := RS.own ho hy0
  exact ⟨g', c', w', hrun, hb, hs, ((Mv.refl (fun _ => False) w).grown hgr (fun k e => by cases e)).toBelow (Nat.le_refl _) (fun _ _ h => h)⟩
theorem app_none {w : World} {g o cap : Nat} {xs : List Ed} (h : RS w g o cap xs) (p : Option Addr) (c2 : Nat) (ty : TypeId) :
    (Builtin.append_ #[117, 117] ty #[slv g o xs.length cap, .slice p 0 c2]).run Tryz.prog w = .ok (slv g o xs.length cap) w := by
  obtain ⟨i0, hi, hz0, hz1, hz2⟩ := infoT
  have hle := h.le
  cases p <;> simp [Builtin.append_, run_underlying Tryz.underlying117, sizeOf, typeInfo, hi, Builtin.lenOf, Builtin.firstCells, loadCells, loadCellsFrom, storeCells, hle]
/-- A slice of records, nil or not. -/
def SV (w : World) (v : Value) (l : List Ed) : Prop := (v = .slice none 0 0 ∧ l = []) ∨ ∃ g o c, v = slv g o l.length c ∧ RS w g o c l
theorem SV.mv {F : Nat → Prop} {w V : World} {v : Value} {l : List Ed} (h : SV w v l) (m : Mv F w V) (hF : ∀ k, nbk v = some k → ¬ F k) : SV V v l := by
  rcases h with h | ⟨g, o, c, rfl, h⟩
  · exact .inl h
  · have hb := m.block g h.rm.lt (hF g rfl)
    have hc : ∀ j, V.cell? ⟨g, j, none⟩ = w.cell? ⟨g, j, none⟩ := fun j => World.cell?_of_block hb
    have hf : ∀ j, V.frozen? ⟨g, j, none⟩ = w.frozen? ⟨g, j, none⟩ := fun j => by unfold World.frozen?; rw [hb]
    exact .inr ⟨g, o, c, rfl, h.le, ⟨Nat.lt_of_lt_of_le h.rm.lt m.size, h.rm.mx, fun j hj => by rw [hc]; exact h.rm.so j hj, fun j hj => by rw [hf]; exact h.rm.fz j hj⟩, fun j u hj => (hc _).trans (h.ra j u hj)⟩
theorem SV.shape {w : World} {v : Value} {l : List Ed} (h : SV w v l) : ∃ p c, v = .slice p l.length c := by
  rcases h with ⟨rfl, rfl⟩ | ⟨g, o, c, rfl, _⟩
  · exact ⟨none, 0, rfl⟩
  · exact ⟨_, _, rfl⟩
theorem SV.lt {w : World} {v : Value} {l : List Ed} (h : SV w v l) {k : Nat} (hk : nbk v = some k) : k < w.heap.size := by
  rcases h with ⟨rfl, rfl⟩ | ⟨g, o, c, rfl, h⟩
  · cases hk
  · cases hk; exact h.rm.lt
theorem SV.append {w : World} {v : Value} {l : List Ed} (h : SV w v l) {g2 : Nat} {x : Ed} (hx : RA w g2 0 [x]) (hl : l.length ≤ 400000) (c2 : Nat) :
    ∃ v' w', (Builtin.append_ #[117, 117] 117 #[v, slv g2 0 1 c2]).run Tryz.prog w = .ok v' w' ∧ SV w' v' (l ++ [x]) ∧ Mv (fun k => nbk v = some k) w w' ∧ (nbk v' = nbk v ∨ ∃ k, nbk v' = some k ∧ w.heap.size ≤ k) := by
  rcases h with ⟨rfl, rfl⟩ | ⟨g, o, c, rfl, h⟩
  · obtain ⟨g', c', w', hrun, hg, hrs, hb⟩ := app_nil (c2 := c2) hx (by simp) (by simp) 117
    exact ⟨_, w', hrun, .inr ⟨g', 0, c', rfl, hrs⟩, Mv.below hb, .inr ⟨g', rfl, hg⟩⟩
  · by_cases hroom : l.length + 1 ≤ c
    · obtain ⟨V', hrun, hrs, hc⟩ := app_room h (c2 := c2) hx hroom 117
      exact ⟨_, V', hrun, .inr ⟨g, o, c, by rw [List.length_append], hrs⟩, hc.mv.mono (fun k _ s => by obtain ⟨j, e, _⟩ := s; subst e; rfl), .inl rfl⟩
    · obtain ⟨g', c', V', hrun, hg, hrs, hb⟩ := app_grow h (c2 := c2) hx (by simp; omega) (by omega) (by simp) 117
      exact ⟨_, V', hrun, .inr ⟨g', 0, c', by rw [List.length_append], hrs⟩, Mv.below hb, .inr ⟨g', rfl, hg⟩⟩
theorem RS.drop {w : World} {g o c : Nat} {L : List Ed} (h : RS w g o c L) {k : Nat} (hk : k ≤ L.length) : RS w g (if c = k then o else o + k * 3) (c - k) (L.drop k) := by
  have hle := h.le
  have ha := (RA.app.1 (by rw [List.take_append_drop]; exact h.ra : RA w g o (L.take k ++ L.drop k))).2
  rw [List.length_take, Nat.min_eq_left hk] at ha
  by_cases hc : c = k
  · rw [if_pos hc]
    have e : L.drop k = [] := List.drop_eq_nil_of_le (by omega)
    rw [e]
    exact ⟨by simp, ⟨h.rm.lt, by have := h.rm.mx; omega, fun j hj => by omega, fun j hj => by omega⟩, RA.nil _ _ _⟩
  · rw [if_neg hc]
    exact ⟨by rw [List.length_drop]; omega, h.rm.sub (by omega), ha⟩
theorem RS.take {w : World} {g o c : Nat} {L : List Ed} (h : RS w g o c L) (k : Nat) : RS w g o c (L.take k) :=
  ⟨Nat.le_trans (by rw [List.length_take]; omega) h.le, h.rm, (RA.app.1 (by rw [List.take_append_drop]; exact h.ra : RA w g o (L.take k ++ L.drop k))).1⟩
theorem slice_lo {w : World} {v : Value} {L : List Ed} (h : SV w v L) {k : Nat} (hk : k ≤ L.length) :
    ∃ dv, (∀ W, (Instr.slice 117 v (some (.int .i64 k)) none none).run Tryz.prog W = .ok dv W) ∧ SV w dv (L.drop k) ∧ ∀ b, nbk dv = some b → nbk v = some b := by
  obtain ⟨i0, hi, hz0, hz1, hz2⟩ := infoT
  rcases h with ⟨rfl, rfl⟩ | ⟨g, o, c, rfl, h⟩
  · have : k = 0 := by simpa using hk
    subst this
    refine ⟨.slice none 0 0, fun W => ?_, .inl ⟨rfl, rfl⟩, fun _ h => h⟩
    simp [Instr.slice, Instr.sliceBounds, Instr.sliceBound, run_underlying Tryz.underlying117, sizeOf, typeInfo, hi, asIntOf]
  · have hle := h.le
    refine ⟨slv g (if c = k then o else o + k * 3) (L.length - k) (c - k), fun W => ?_, .inr ⟨_, _, _, by rw [List.length_drop], h.drop hk⟩, fun _ h => h⟩
    by_cases e : c = k
    · simp [Instr.slice, Instr.sliceBounds, Instr.sliceBound, run_underlying Tryz.underlying117, sizeOf, typeInfo, hi, asIntOf, hz1, e, Addr.add_lit]; intro z; omega
    · simp [Instr.slice, Instr.sliceBounds, Instr.sliceBound, run_underlying Tryz.underlying117, sizeOf, typeInfo, hi, asIntOf, hz1, e, Addr.add_lit]; intro z; omega
theorem slice_hi {w : World} {v : Value} {L : List Ed} (h : SV w v L) {k : Nat} (hk : k ≤ L.length) :
    ∃ dv, (∀ W, (Instr.slice 117 v none (some (.int .i64 k)) none).run Tryz.prog W = .ok dv W) ∧ SV w dv (L.take k) := by
  obtain ⟨i0, hi, hz0, hz1, hz2⟩ := infoT
  rcases h with ⟨rfl, rfl⟩ | ⟨g, o, c, rfl, h⟩
  · have : k = 0 := by simpa using hk
    subst this
    refine ⟨.slice none 0 0, fun W => ?_, .inl ⟨rfl, rfl⟩⟩
    simp [Instr.slice, Instr.sliceBounds, Instr.sliceBound, run_underlying Tryz.underlying117, sizeOf, typeInfo, hi, asIntOf]
  · have hle := h.le
    refine ⟨slv g o k c, fun W => ?_, .inr ⟨_, _, _, by rw [List.length_take, Nat.min_eq_left hk], h.take k⟩⟩
    by_cases e : c = 0
    · have : k = 0 := by omega
      subst this
      simp [Instr.slice, Instr.sliceBounds, Instr.sliceBound, run_underlying Tryz.underlying117, sizeOf, typeInfo, hi, asIntOf, e]
    · simp [Instr.slice, Instr.sliceBounds, Instr.sliceBound, run_underlying Tryz.underlying117, sizeOf, typeInfo, hi, asIntOf, e, Addr.add_lit]; intro z; omega
theorem app_nn (w : World) (p : Option Addr) (c2 : Nat) (ty : TypeId) :
    (Builtin.append_ #[117, 117] ty #[.slice none 0 0, .slice p 0 c2]).run Tryz.prog w = .ok (.slice none 0 0) w := by
  obtain ⟨i0, hi, hz0, hz1, hz2⟩ := infoT
  cases p <;> simp [Builtin.append_, run_underlying Tryz.underlying117, sizeOf, typeInfo, hi, Builtin.lenOf, Builtin.firstCells, loadCells, loadCellsFrom]
/-- append(a, b...). -/
theorem SV.cat {w : World} {v v2 : Value} {l l2 : List Ed} (h : SV w v l) (h2 : SV w v2 l2) (hl : l.length ≤ 400000) (hl2 : l2.length ≤ 400000) :
    ∃ v' w', (Builtin.append_ #[117, 117] 117 #[v, v2]).run Tryz.prog w = .ok v' w' ∧ SV w' v' (l ++ l2) ∧ Mv (fun k => nbk v = some k) w w' ∧ (nbk v' = nbk v ∨ ∃ k, nbk v' = some k ∧ w.heap.size ≤ k) := by
  by_cases e2 : l2 = []
  · subst e2
    obtain ⟨p2, c2, rfl⟩ := h2.shape
    rw [List.append_nil]
    rcases h with ⟨rfl, rfl⟩ | ⟨g, o, c, rfl, h⟩
    · exact ⟨_, w, app_nn w p2 c2 _, .inl ⟨rfl, rfl⟩, Mv.refl _ _, .inl rfl⟩
    · exact ⟨_, w, app_none h p2 c2 _, .inr ⟨g, o, c, rfl, h⟩, Mv.refl _ _, .inl rfl⟩
  · obtain ⟨g2, o2, c2, rfl, r2⟩ := h2.resolve_left (fun z => e2 z.2)
    rcases h with ⟨rfl, rfl⟩ | ⟨g, o, c, rfl, h⟩
    · obtain ⟨g', c', w', hrun, hg, hrs, hb⟩ := app_nil (c2 := c2) r2.ra e2 (by omega) 117
      exact ⟨_, w', hrun, .inr ⟨g', 0, c', rfl, hrs⟩, Mv.below hb, .inr ⟨g', rfl, hg⟩⟩
    · by_cases hroom : l.length + l2.length ≤ c
      · obtain ⟨V', hrun, hrs, hc⟩ := app_room h (c2 := c2) r2.ra hroom 117
        exact ⟨_, V', hrun, .inr ⟨g, o, c, by rw [List.length_append], hrs⟩, hc.mv.mono (fun k _ s => by obtain ⟨j, e, _⟩ := s; subst e; rfl), .inl rfl⟩
      · obtain ⟨g', c', V', hrun, hg, hrs, hb⟩ := app_grow h (c2 := c2) r2.ra (by omega) (by omega) (by omega) 117
        exact ⟨_, V', hrun, .inr ⟨g', 0, c', by rw [List.length_append], hrs⟩, Mv.below hb, .inr ⟨g', rfl, hg⟩⟩
/-- One more behind it. -/
theorem SV.push {W : World} {v : Value} {l : List Ed} (h : SV W v l) (x : Ed) (hl : l.length ≤ 300000) {B : Nat} (hB : W.heap.size = B) :
    ∃ v' W', (Builtin.append_ #[117, 117] 117 #[v, .slice (some ⟨B, 0, none⟩) 1 1]).run Tryz.prog (W.alloc (.cells #[.int .i64 x.1, .string x.2.1, .string x.2.2] 156)) = .ok v' W' ∧ SV W' v' (l ++ [x]) ∧ Mv (fun k => nbk v = some k) W W' ∧ (nbk v' = nbk v ∨ ∃ k, nbk v' = some k ∧ W.heap.size ≤ k) := by
  subst hB
  obtain ⟨A, hA⟩ : ∃ A, W.alloc (.cells #[.int .i64 x.1, .string x.2.1, .string x.2.2] 156) = A := ⟨_, rfl⟩
  have bA : Below W.heap.size W A := by rw [← hA]; exact (Below.refl _ _).alloc (Nat.le_refl _) _
  have hx : RA A W.heap.size 0 [x] := fun j z hj => by
    rw [Nat.zero_add, ← hA]
    refine cell_at rfl ?_
    match j, hj with
    | 0, hj => exact hj
    | 1, hj => exact hj
    | 2, hj => exact hj
    | j + 3, hj => simp [flat] at hj
  obtain ⟨v2, W2, hr2, sv2, mv2, at2⟩ := (h.mv (F := fun _ => False) (Mv.below bA) (fun _ _ h => h)).append hx (by omega) 1
  rw [hA]
  refine ⟨v2, W2, hr2, sv2, (Mv.below bA).trans' mv2, at2.imp id ?_⟩
  rintro ⟨k, e, hk⟩
  exact ⟨k, e, Nat.le_trans bA.size hk⟩
end Go.Proofs.YtedgnigogkmgkaaGreatDoor.Eg
/- Contracts of package name's isLetterOrDigit, isSpelt, cut, Is. -/
namespace Go.Proofs.YtedgnigogkmgkaaGreatDoor
open Go.RowKit Nam
set_option maxHeartbeats 1000000 in
theorem lod_any (c : UInt8) (w : World) :
    Calls Tryz.prog 172 #[.int .u8 c.toNat] w fun e w' => e = .returned (.bool (al c)) ∧ w' = w := by
  have hc := c.toNat_lt
  have hA : Hid (al c = decide ((97 ≤ c.toNat ∧ c.toNat ≤ 122) ∨ (65 ≤ c.toNat ∧ c.toNat ≤ 90) ∨ (48 ≤ c.toNat ∧ c.toNat ≤ 57))) := rfl
  go_enter Tryz.func172, Tryz.ntmps172
  go_wp2
  all_goals
    go_ret
    refine ⟨ret_bool ?_, rfl⟩
    rw [hA.out]
    first | (simp; omega) | (rw [Bool.eq_iff_iff]; simp; omega) | (rw [Bool.eq_iff_iff]; simp at *; omega)
theorem byte_back (c : UInt8) : (c.toNat : Int).toNat.toUInt8 = c := by simp
theorem spC (c : UInt8) : sp c = (al c || decide (0 ≤ Lib.indexByte [58, 45, 95, 46, 92] c)) := rfl
theorem indexByte_any (s : ByteArray) (c : UInt8) (w : World) :
    Calls Tryz.prog 173 #[.string s, .int .u8 c.toNat] w fun e w' => e = .returned (.int .i64 (Lib.indexByte s.data.toList c)) ∧ w' = w := by
  have := Tryz.strings_IndexByte s c.toNat w
  rwa [byte_back] at this
set_option maxHeartbeats 2000000 in
theorem spelt_any (s : ByteArray) (w : World) (hs : s.size ≤ 2000000) :
    Calls Tryz.prog 137 #[.string s] w fun e w' => e = .returned (.bool (spelt s.data.toList)) ∧ w' = w := by
  go_enter Tryz.func137, Tryz.ntmps137
  go_wp2_with fail
  go_loop [6] (fun i => ∃ k : Nat, k ≤ s.size ∧ i = .int .i64 k ∧ Hid ((s.data.toList.take k).all sp = true)) (fun i => s.size - (intOf i).toNat)
  case atStart => exact ⟨0, by omega, rfl, rfl⟩
  case round =>
    obtain ⟨k, hk, rfl, hno⟩ := hrel
    by_cases hlt : k < s.size
    · have htk : Hid (s.data.toList.take (k + 1) = s.data.toList.take k ++ [s[k]]) := by
        show _ = _
        rw [List.take_add_one, get_list s k hlt]; rfl
      have hmem : Hid (s[k] ∈ s.data.toList) := List.mem_of_getElem? (get_list s k hlt)
      obtain ⟨c, hc⟩ : ∃ c, s[k] = c := ⟨_, rfl⟩
      rw [hc] at htk hmem
      cases hsp : sp c
      · have hF : Hid (spelt s.data.toList = false) := by
          show _ = _
          unfold spelt
          rw [← Bool.not_eq_true, List.all_eq_true]
          intro h
          rw [h c hmem.out] at hsp; cases hsp
        have ha : al c = false := by rw [spC] at hsp; simp at hsp; exact hsp.1
        have hi : Lib.indexByte [58, 45, 95, 46, 92] c < 0 := by rw [spC] at hsp; simp at hsp; omega
        go_wp2_with (first | (go_at_call 172; refine (lod_any c _).mono ?_; rintro e w' ⟨rfl, rfl⟩) | (go_at_call 173; refine (indexByte_any _ c _).mono ?_; rintro e w' ⟨rfl, rfl⟩))
        go_ret
        exact ⟨ret_bool (by rw [hF.out]), rfl⟩
      · have hn : Hid ((s.data.toList.take (k + 1)).all sp = true) := by
          show _ = _
          rw [htk.out, List.all_append, hno.out]; simp [hsp]
        cases ha : al c
        · have hi : ¬ Lib.indexByte [58, 45, 95, 46, 92] c < 0 := by rw [spC, ha] at hsp; simp at hsp; omega
          go_wp2_with (first | (go_at_call 172; refine (lod_any c _).mono ?_; rintro e w' ⟨rfl, rfl⟩) | (go_at_call 173; refine (indexByte_any _ c _).mono ?_; rintro e w' ⟨rfl, rfl⟩))
          exact ⟨⟨k + 1, by omega, by go_num, hn⟩, by simp [intOf]; omega⟩
        · go_wp2_with (first | (go_at_call 172; refine (lod_any c _).mono ?_; rintro e w' ⟨rfl, rfl⟩) | (go_at_call 173; refine (indexByte_any _ c _).mono ?_; rintro e w' ⟨rfl, rfl⟩))
          exact ⟨⟨k + 1, by omega, by go_num, hn⟩, by simp [intOf]; omega⟩
    · obtain rfl : k = s.size := by omega
      have hT : Hid (spelt s.data.toList = true) := by
        have := hno.out
        rwa [List.take_of_length_le (by rw [size_list]; omega)] at this
      go_wp2_with fail
      go_ret
      exact ⟨ret_bool (by rw [hT.out]), rfl⟩
theorem undE : Tryz.prog.underlying 193 = some (.array 6 158) := by kernel_rfl
theorem extract2 (cs : Array Value) (m : Nat) (a b : Value) (ha : cs[m]? = some a) (hb : cs[m + 1]? = some b) : cs.extract m (m + 2) = #[a, b] := by
  obtain ⟨l⟩ := cs
  simp only [List.getElem?_toArray] at ha hb
  obtain ⟨h1, h2⟩ := List.getElem?_eq_some_iff.1 ha
  obtain ⟨h3, h4⟩ := List.getElem?_eq_some_iff.1 hb
  rw [List.extract_toArray, List.extract_eq_take_drop, List.drop_eq_getElem_cons h1, h2, List.drop_eq_getElem_cons h3, h4]
  simp
theorem idxE {w : World} (cs : Array Value) (i : Nat) (h1 : i < 6) (_ : cs.size = 12) (a b : Value) (ha : cs[i * 2]? = some a) (hb : cs[i * 2 + 1]? = some b) : (Instr.index 193 (.agg cs) (.int .i64 i)).run Tryz.prog w = .ok (.agg #[a, b]) w := by
  have hz : Tryz.t158.size = 2 := by kernel_rfl
  have hI : (i : Int) < 6 := by omega
  have h0 : (0 : Int) ≤ (i : Int) := by omega
  simp [Instr.index, run_underlying undE, asIntOf, h0, go_sem, part, sizeOf]
  rw [if_pos h1, hz, extract2 cs (i * 2) a b ha hb]
/-- The package's variables: the endings, and what package bytealg keeps. -/
structure GlN (w : World) : Prop where
  en : ∀ (j : Nat) (e : L), ends[j]? = some e → w.cell? ⟨0, 2 * j, none⟩ = some (.string ⟨e.toArray⟩) ∧ w.cell? ⟨0, 2 * j + 1, none⟩ = some (.int .i64 ((j : Int) + 1))
  mx : ∃ m, w.cell? ⟨1, 0, none⟩ = some (.int .i64 m)
theorem GlN.below {w w' : World} (h : GlN w) (hb : Below w.heap.size w w') : GlN w' :=
  ⟨fun j e he => ⟨(hb.cell (p := ⟨0, 2 * j, none⟩) (cell_lt (h.en j e he).1)).trans (h.en j e he).1, (hb.cell (p := ⟨0, 2 * j + 1, none⟩) (cell_lt (h.en j e he).2)).trans (h.en j e he).2⟩,
    by obtain ⟨m, hm⟩ := h.mx; exact ⟨m, (hb.cell (p := ⟨1, 0, none⟩) (cell_lt hm)).trans hm⟩⟩
def zeroP : Value := .agg #[.string ⟨#[]⟩, .string ⟨#[]⟩, .bool false, .string ⟨#[]⟩, .int .i64 0]
def prtV (p : Prt) : Value := .agg #[.string ⟨p.1.toArray⟩, .string ⟨p.2.1.toArray⟩, .bool p.2.2.1, .string ⟨(endk p.2.2.2).toArray⟩, .int .i64 ((p.2.2.2 : Int) + 1)]
def cutV : Option Prt → Value
  | none => zeroP
  | some p => prtV p
theorem below_set5 {w W : World} {n b : Nat} (h : Below n w W) (hb : n ≤ b) (v0 v1 v2 v3 v4 : Value) : Below n w (((((W.setCell ⟨b, 0, none⟩ v0).setCell ⟨b, 1, none⟩ v1).setCell ⟨b, 2, none⟩ v2).setCell ⟨b, 3, none⟩ v3).setCell ⟨b, 4, none⟩ v4) :=
  ((((h.setCell (p := ⟨b, 0, none⟩) hb _).setCell (p := ⟨b, 1, none⟩) hb _).setCell (p := ⟨b, 2, none⟩) hb _).setCell (p := ⟨b, 3, none⟩) hb _).setCell (p := ⟨b, 4, none⟩) hb _
theorem cut_le (l : L) (c : L) : (Lib.cut l c).1.length ≤ l.length ∧ (Lib.cut l c).2.1.length ≤ l.length := by
  unfold Lib.cut
  split
  · simp; omega
  · simp
set_option maxHeartbeats 4000000 in
theorem cutn_any (s : ByteArray) (w : World) (hg : GlN w) (hs : s.size ≤ 2000000) :
    Calls Tryz.prog 100 #[.string s] w fun e w' => e = .returned (.tuple #[cutV (cutN s.data.toList), .bool (cutN s.data.toList).isSome]) ∧ Below w.heap.size w w' := by
  by_cases hz : 60 < s.size
  · have hN : Hid (cutN s.data.toList = none) := by show _ = _; unfold cutN; rw [size_list, if_pos hz]
    go_enter Tryz.func100, Tryz.ntmps100
    go_wp2_with fail
    exact bodyPost_ret (v := .tuple #[.agg #[.string ⟨#[]⟩, .string ⟨#[]⟩, .bool false, .string ⟨#[]⟩, .int .i64 0], .bool false]) (by simp [results, Tryz.results100, go_sem]) rfl ⟨by rw [hN.out]; rfl, (Below.refl _ _).alloc (Nat.le_refl _) _⟩
  · have hN : Hid (cutN s.data.toList = (fnd s.data.toList 0 ends).bind fun p => stm p.1 p.2) := by show _ = _; unfold cutN; rw [size_list, if_neg hz]
    have c0 : w.cell? ⟨0, 0, none⟩ = some (.string ⟨#[46, 115, 101, 114, 118, 105, 99, 101]⟩) := (hg.en 0 _ rfl).1
    have d0 : w.cell? ⟨0, 1, none⟩ = some (.int .i64 1) := (hg.en 0 _ rfl).2
    have c1 : w.cell? ⟨0, 2, none⟩ = some (.string ⟨#[46, 115, 111, 99, 107, 101, 116]⟩) := (hg.en 1 _ rfl).1
    have d1 : w.cell? ⟨0, 3, none⟩ = some (.int .i64 2) := (hg.en 1 _ rfl).2
    have c2 : w.cell? ⟨0, 4, none⟩ = some (.string ⟨#[46, 116, 105, 109, 101, 114]⟩) := (hg.en 2 _ rfl).1
    have d2 : w.cell? ⟨0, 5, none⟩ = some (.int .i64 3) := (hg.en 2 _ rfl).2
    have c3 : w.cell? ⟨0, 6, none⟩ = some (.string ⟨#[46, 112, 97, 116, 104]⟩) := (hg.en 3 _ rfl).1
    have d3 : w.cell? ⟨0, 7, none⟩ = some (.int .i64 4) := (hg.en 3 _ rfl).2
    have c4 : w.cell? ⟨0, 8, none⟩ = some (.string ⟨#[46, 109, 111, 117, 110, 116]⟩) := (hg.en 4 _ rfl).1
    have d4 : w.cell? ⟨0, 9, none⟩ = some (.int .i64 5) := (hg.en 4 _ rfl).2
    have c5 : w.cell? ⟨0, 10, none⟩ = some (.string ⟨#[46, 116, 97, 114, 103, 101, 116]⟩) := (hg.en 5 _ rfl).1
    have d5 : w.cell? ⟨0, 11, none⟩ = some (.int .i64 6) := (hg.en 5 _ rfl).2
    have h0 : 0 < w.heap.size := cell_lt c0
    obtain ⟨cs, hcs⟩ : ∃ cs : Array Value, Hid (cs = #[.string ⟨#[46, 115, 101, 114, 118, 105, 99, 101]⟩, .int .i64 1, .string ⟨#[46, 115, 111, 99, 107, 101, 116]⟩, .int .i64 2, .string ⟨#[46, 116, 105, 109, 101, 114]⟩, .int .i64 3, .string ⟨#[46, 112, 97, 116, 104]⟩, .int .i64 4, .string ⟨#[46, 109, 111, 117, 110, 116]⟩, .int .i64 5, .string ⟨#[46, 116, 97, 114, 103, 101, 116]⟩, .int .i64 6]) := ⟨_, rfl⟩
    go_enter Tryz.func100, Tryz.ntmps100
    go_wp2_with fail
    rw [← hcs.out]
    have hix : Hid (∀ (k : Nat) (e : L), ends[k]? = some e → ∀ w, (Instr.index 193 (.agg cs) (.int .i64 k)).run Tryz.prog w = .ok (.agg #[.string ⟨e.toArray⟩, .int .i64 ((k : Int) + 1)]) w) := by
      intro k e he w
      have hk6 : k < 6 := by have := (List.getElem?_eq_some_iff.1 he).1; simpa [ends] using this
      refine idxE cs k hk6 (by rw [hcs.out]; rfl) _ _ ?_ ?_
      all_goals
        rw [hcs.out]
        match k, he with
        | 0, he => cases he; rfl
        | 1, he => cases he; rfl
        | 2, he => cases he; rfl
        | 3, he => cases he; rfl
        | 4, he => cases he; rfl
        | 5, he => cases he; rfl
        | n + 6, he => simp [ends] at he
    clear c0 c1 c2 c3 c4 c5 d0 d1 d2 d3 d4 d5 h0
    obtain ⟨W0, hW0⟩ : ∃ W0, w.alloc (.cells #[.string ⟨#[]⟩, .string ⟨#[]⟩, .bool false, .string ⟨#[]⟩, .int .i64 0] 160) = W0 := ⟨_, rfl⟩
    rw [hW0]
    have hB0 : Hid (Below w.heap.size w W0) := by rw [← hW0]; exact (Below.refl _ _).alloc (Nat.le_refl _) _
    have hz0 : W0.heap.size = w.heap.size + 1 := by rw [← hW0]; simp
    have hcell : Hid (W0.cell? ⟨w.heap.size, 0, none⟩ = some (.string ⟨#[]⟩) ∧ W0.cell? ⟨w.heap.size, 1, none⟩ = some (.string ⟨#[]⟩) ∧ W0.cell? ⟨w.heap.size, 2, none⟩ = some (.bool false) ∧ W0.cell? ⟨w.heap.size, 3, none⟩ = some (.string ⟨#[]⟩) ∧ W0.cell? ⟨w.heap.size, 4, none⟩ = some (.int .i64 0)) := by
      rw [← hW0]; exact ⟨cell_at rfl rfl, cell_at rfl rfl, cell_at rfl rfl, cell_at rfl rfl, cell_at rfl rfl⟩
    have hfroz : Hid (∀ j, W0.frozen? ⟨w.heap.size, j, none⟩ = false) := by
      intro j; rw [← hW0]; exact World.frozen?_alloc_new w _ _ j
    clear hW0
    go_loopw [16] (fun i wr => ∃ k : Nat, k ≤ 6 ∧ i = .int .i64 k ∧ Hid (fnd s.data.toList 0 ends = fnd s.data.toList k (ends.drop k)) ∧ Hid (Below W0.heap.size W0 wr) ∧ w.heap.size < wr.heap.size) (fun i _ => 6 - (intOf i).toNat)
    case atStart => exact ⟨0, by omega, rfl, rfl, Below.refl _ _, by omega⟩
    case round =>
      obtain ⟨k, hk, rfl, hf, hb, hwz⟩ := hrel
      have hgr : GlN wr := (hg.below hB0.out).below hb.out
      have hBw : Hid (Below w.heap.size w wr) := hB0.out.trans (hb.out.mono (by omega))
      obtain ⟨q0, q1, q2, q3, q4⟩ := hcell.out
      have wl : w.heap.size < W0.heap.size := by omega
      replace q0 := (hb.out.cell (p := ⟨w.heap.size, 0, none⟩) wl).trans q0
      replace q1 := (hb.out.cell (p := ⟨w.heap.size, 1, none⟩) wl).trans q1
      replace q2 := (hb.out.cell (p := ⟨w.heap.size, 2, none⟩) wl).trans q2
      replace q3 := (hb.out.cell (p := ⟨w.heap.size, 3, none⟩) wl).trans q3
      replace q4 := (hb.out.cell (p := ⟨w.heap.size, 4, none⟩) wl).trans q4
      have f0 := (hb.out.frozen (p := ⟨w.heap.size, 0, none⟩) wl).trans (hfroz.out 0)
      have f1 := (hb.out.frozen (p := ⟨w.heap.size, 1, none⟩) wl).trans (hfroz.out 1)
      have f2 := (hb.out.frozen (p := ⟨w.heap.size, 2, none⟩) wl).trans (hfroz.out 2)
      have f3 := (hb.out.frozen (p := ⟨w.heap.size, 3, none⟩) wl).trans (hfroz.out 3)
      have f4 := (hb.out.frozen (p := ⟨w.heap.size, 4, none⟩) wl).trans (hfroz.out 4)
      by_cases hlt : k < 6
      · obtain ⟨e, he⟩ : ∃ e, ends[k]? = some e := ⟨_, List.getElem?_eq_getElem (by simpa [ends] using hlt)⟩
        have hst := fnd_step s.data.toList k e he
        have hek := endk_of he
        have hx := hix.out k e he
        obtain ⟨E, hEe⟩ : ∃ E : ByteArray, (⟨e.toArray⟩ : ByteArray) = E := ⟨_, rfl⟩
        have hEl : E.data.toList = e := by rw [← hEe]
        rw [hEe] at hx
        have hCS := Tryz.strings_CutSuffix s E
        rw [hEl] at hCS
        have hI : (k : Int) < 6 := by omega
        cases hsf : Lib.hasSuffix s.data.toList e
        · have hn : Hid (fnd s.data.toList k (ends.drop k) = fnd s.data.toList (k + 1) (ends.drop (k + 1))) := by
            show _ = _
            rw [hst, if_neg (by rw [hsf]; simp)]
          rw [hsf] at hCS
          have hCS' : Hid (∀ w, s.size ≤ 9223372036854775807 → Calls Tryz.prog 135 #[.string s, .string E] w fun e_1 w' => e_1 = .returned (.tuple #[.string ⟨(Lib.trimSuffix s.data.toList e).toArray⟩, .bool false]) ∧ w' = w) := hCS
          clear hst hek hCS he hEe hEl
          go_wp2_with fail
          refine (hCS'.out _ (by omega)).mono ?_
          rintro e1 w1 ⟨rfl, rfl⟩
          go_wp2_with fail
          exact ⟨⟨k + 1, by omega, by go_num, hf.out.trans hn.out, hb.out.alloc hb.out.size _, by simp; omega⟩, by simp [intOf]; omega⟩
        · obtain ⟨st, hstm⟩ : ∃ st, Lib.trimSuffix s.data.toList e = st := ⟨_, rfl⟩
          have hR : Hid (cutN s.data.toList = stm st k) := by
            show _ = _
            rw [hN.out, hf.out, hst, if_pos hsf, ← hstm, Lib.trimSuffix, if_pos hsf]; rfl
          have hsl : st.length ≤ 2000000 := by
            have := Lib.trimSuffix_le s.data.toList e
            rw [hstm, size_list] at this; omega
          rw [hsf, hstm] at hCS
          have hCS' : Hid (∀ w, s.size ≤ 9223372036854775807 → Calls Tryz.prog 135 #[.string s, .string E] w fun e_1 w' => e_1 = .returned (.tuple #[.string ⟨st.toArray⟩, .bool true]) ∧ w' = w) := hCS
          clear hst hCS he hf
          obtain ⟨m, hm⟩ := hgr.mx
          have hmlt : 1 < wr.heap.size := cell_lt hm
          obtain ⟨S, hS⟩ : ∃ S : ByteArray, (⟨st.toArray⟩ : ByteArray) = S := ⟨_, rfl⟩
          have hSl : S.data.toList = st := by rw [← hS]
          have hSz : S.size ≤ 2000000 := by rw [← hS]; exact hsl
          obtain ⟨A, hA⟩ : ∃ A : ByteArray, (⟨(Lib.cut st [64]).1.toArray⟩ : ByteArray) = A := ⟨_, rfl⟩
          obtain ⟨Z, hZ⟩ : ∃ Z : ByteArray, (⟨(Lib.cut st [64]).2.1.toArray⟩ : ByteArray) = Z := ⟨_, rfl⟩
          obtain ⟨F, hF⟩ : ∃ F : Bool, (Lib.cut st [64]).2.2 = F := ⟨_, rfl⟩
          have hAl : A.data.toList = (Lib.cut st [64]).1 := by rw [← hA]
          have hZl : Z.data.toList = (Lib.cut st [64]).2.1 := by rw [← hZ]
          have hle := cut_le st [64]
          have hAs : A.size ≤ 2000000 := by rw [← hA]; exact Nat.le_trans hle.1 hsl
          have hZs : Z.size ≤ 2000000 := by rw [← hZ]; exact Nat.le_trans hle.2 hsl
          have hCut : Hid (∀ w, w.cell? ⟨1, 0, none⟩ = some (.int .i64 m) → Calls Tryz.prog 136 #[.string S, .string ⟨#[64]⟩] w fun e w' => e = .returned (.tuple #[.string A, .string Z, .bool F]) ∧ ∃ n, w' = w.drewN n) := by
            intro w h
            have := Tryz.strings_Cut S ⟨#[64]⟩ m w (by omega) h
            rw [hSl] at this
            rw [← hA, ← hZ, ← hF]
            exact this
          rw [hS] at hCS'
          have hSt : Hid (stm st k = if (A.toList == []) || !(spelt A.data.toList) || !(spelt Z.data.toList) then none else some ((Lib.cut st [64]).1, (Lib.cut st [64]).2.1, F, k)) := by
            show _ = _
            rw [Lib.toList_data, hAl, hZl, ← hF]; rfl
          have hV : Hid (prtV ((Lib.cut st [64]).1, (Lib.cut st [64]).2.1, F, k) = .agg #[.string A, .string Z, .bool F, .string E, .int .i64 ((k : Int) + 1)]) := by
            show _ = _
            unfold prtV
            rw [hA, hZ, hek, hEe]
          clear hA hZ hF hAl hZl hle hS hSl hstm hek hEe hEl hsl
          have hb1 : Hid (Below w.heap.size w (wr.alloc (.cells #[.string E, .int .i64 ((k : Int) + 1)] 158))) := hBw.out.alloc hBw.out.size _
          cases ha : (A.toList == [])
          · cases h1 : spelt A.data.toList
            · have hX : Hid (cutN s.data.toList = none) := by show _ = _; rw [hR.out, hSt.out, ha, h1]; rfl
              go_wp2_with fail
              refine (hCS'.out _ (by omega)).mono ?_
              rintro e1 w1 ⟨rfl, rfl⟩
              go_wp2_with fail
              refine (hCut.out _ (by rw [World.cell?_alloc_lt _ _ _ hmlt]; exact hm)).mono ?_
              rintro e1 w1 ⟨rfl, n, rfl⟩
              go_wp2_with (go_at_call 137; refine (spelt_any A _ (by omega)).mono ?_; rintro e w' ⟨rfl, rfl⟩)
              refine bodyPost_ret (v := .tuple #[.agg #[.string ⟨#[]⟩, .string ⟨#[]⟩, .bool false, .string ⟨#[]⟩, .int .i64 0], .bool false]) (by simp [results, Tryz.results100, go_sem, q0, q1, q2, q3, q4, hwz]) rfl ⟨by rw [hX.out]; rfl, ?_⟩
              exact below_set5 (below_drewN hb1.out _) (Nat.le_refl _) _ _ _ _ _
            · cases h2 : spelt Z.data.toList
              · have hX : Hid (cutN s.data.toList = none) := by show _ = _; rw [hR.out, hSt.out, ha, h1, h2]; rfl
                go_wp2_with fail
                refine (hCS'.out _ (by omega)).mono ?_
                rintro e1 w1 ⟨rfl, rfl⟩
                go_wp2_with fail
                refine (hCut.out _ (by rw [World.cell?_alloc_lt _ _ _ hmlt]; exact hm)).mono ?_
                rintro e1 w1 ⟨rfl, n, rfl⟩
                go_wp2_with (go_at_call 137; refine (spelt_any _ _ (by assumption)).mono ?_; rintro e w' ⟨rfl, rfl⟩)
                refine bodyPost_ret (v := .tuple #[.agg #[.string ⟨#[]⟩, .string ⟨#[]⟩, .bool false, .string ⟨#[]⟩, .int .i64 0], .bool false]) (by simp [results, Tryz.results100, go_sem, q0, q1, q2, q3, q4, hwz]) rfl ⟨by rw [hX.out]; rfl, ?_⟩
                exact below_set5 (below_drewN hb1.out _) (Nat.le_refl _) _ _ _ _ _
              · have hX : Hid (cutN s.data.toList = some ((Lib.cut st [64]).1, (Lib.cut st [64]).2.1, F, k)) := by show _ = _; rw [hR.out, hSt.out, ha, h1, h2]; rfl
                go_wp2_with fail
                refine (hCS'.out _ (by omega)).mono ?_
                rintro e1 w1 ⟨rfl, rfl⟩
                go_wp2_with fail
                refine (hCut.out _ (by rw [World.cell?_alloc_lt _ _ _ hmlt]; exact hm)).mono ?_
                rintro e1 w1 ⟨rfl, n, rfl⟩
                go_wp2_with (go_at_call 137; refine (spelt_any _ _ (by assumption)).mono ?_; rintro e w' ⟨rfl, rfl⟩)
                refine bodyPost_ret (v := .tuple #[.agg #[.string A, .string Z, .bool F, .string E, .int .i64 ((k : Int) + 1)], .bool true]) (by simp [results, Tryz.results100, go_sem, q0, q1, q2, q3, q4, hwz]) rfl ⟨by rw [hX.out, cutV, hV.out]; rfl, ?_⟩
                exact below_set5 (below_drewN hb1.out _) (Nat.le_refl _) _ _ _ _ _
          · have hX : Hid (cutN s.data.toList = none) := by show _ = _; rw [hR.out, hSt.out, ha]; rfl
            go_wp2_with fail
            refine (hCS'.out _ (by omega)).mono ?_
            rintro e1 w1 ⟨rfl, rfl⟩
            go_wp2_with fail
            refine (hCut.out _ (by rw [World.cell?_alloc_lt _ _ _ hmlt]; exact hm)).mono ?_
            rintro e1 w1 ⟨rfl, n, rfl⟩
            go_wp2_with fail
            refine bodyPost_ret (v := .tuple #[.agg #[.string ⟨#[]⟩, .string ⟨#[]⟩, .bool false, .string ⟨#[]⟩, .int .i64 0], .bool false]) (by simp [results, Tryz.results100, go_sem, q0, q1, q2, q3, q4, hwz]) rfl ⟨by rw [hX.out]; rfl, ?_⟩
            exact below_set5 (below_drewN hb1.out _) (Nat.le_refl _) _ _ _ _ _
      · obtain rfl : k = 6 := by omega
        have hR : Hid (cutN s.data.toList = none) := by show _ = _; rw [hN.out, hf.out]; rfl
        go_wp2_with fail
        refine bodyPost_ret (v := .tuple #[.agg #[.string ⟨#[]⟩, .string ⟨#[]⟩, .bool false, .string ⟨#[]⟩, .int .i64 0], .bool false]) (by simp [results, Tryz.results100, go_sem, q0, q1, q2, q3, q4]) rfl ⟨by rw [hR.out]; rfl, ?_⟩
        exact below_set5 hBw.out (Nat.le_refl _) _ _ _ _ _
theorem cutn_none (s : ByteArray) (w : World) (hg : GlN w) (hs : s.size ≤ 2000000) (h : cutN s.data.toList = none) :
    Calls Tryz.prog 100 #[.string s] w fun e w' => e = .returned (.tuple #[.agg #[.string ⟨#[]⟩, .string ⟨#[]⟩, .bool false, .string ⟨#[]⟩, .int .i64 0], .bool false]) ∧ Below w.heap.size w w' := by
  have := cutn_any s w hg hs
  rw [h] at this
  exact this
theorem cutn_some (s : ByteArray) (w : World) (hg : GlN w) (hs : s.size ≤ 2000000) (A Z E : ByteArray) (m : Bool) (k : Nat) (h : cutN s.data.toList = some (A.data.toList, Z.data.toList, m, k)) (hE : E = ⟨(endk k).toArray⟩) :
    Calls Tryz.prog 100 #[.string s] w fun e w' => e = .returned (.tuple #[.agg #[.string A, .string Z, .bool m, .string E, .int .i64 ((k : Int) + 1)], .bool true]) ∧ Below w.heap.size w w' := by
  have := cutn_any s w hg hs
  rw [h] at this
  subst hE
  refine this.mono ?_
  rintro e w' ⟨rfl, hb⟩
  refine ⟨?_, hb⟩
  show Ending.returned (.tuple #[prtV (A.data.toList, Z.data.toList, m, k), .bool true]) = _
  unfold prtV
  rw [Lib.mk_data, Lib.mk_data]
set_option maxHeartbeats 1000000 in
theorem is_any (s : ByteArray) (w : World) (hg : GlN w) (hs : s.size ≤ 2000000) :
    Calls Tryz.prog 57 #[.string s] w fun e w' => e = .returned (.bool (cutN s.data.toList).isSome) ∧ Below w.heap.size w w' := by
  cases h : cutN s.data.toList with
  | none =>
    have hc := cutn_none s w hg hs h
    go_enter Tryz.func57, Tryz.ntmps57
    go_wp2_with fail
    refine hc.mono ?_
    rintro e w1 ⟨rfl, hb⟩
    go_wp2_with fail
    go_ret
    exact ⟨rfl, hb.alloc hb.size _⟩
  | some p =>
    obtain ⟨x, y, m, k⟩ := p
    obtain ⟨A, rfl, _, _⟩ := letters x
    obtain ⟨Z, rfl, _, _⟩ := letters y
    obtain ⟨E, hE⟩ : ∃ E : ByteArray, E = ⟨(endk k).toArray⟩ := ⟨_, rfl⟩
    have hc := cutn_some s w hg hs A Z E m k h hE
    go_enter Tryz.func57, Tryz.ntmps57
    go_wp2_with fail
    refine hc.mono ?_
    rintro e w1 ⟨rfl, hb⟩
    go_wp2_with fail
    go_ret
    exact ⟨rfl, hb.alloc hb.size _⟩
end Go.Proofs.YtedgnigogkmgkaaGreatDoor
