import Derived.Test.YtedgnigogkmgkaaGreatDoorBai
import Derived.Test.YtedgnigogkmgkaaGreatDoorRZ2
import Derived.Test.YtedgnigogkmgkaaGreatDoorBah
/- Rows held against each other. -/
namespace Go.Proofs.YtedgnigogkmgkaaGreatDoor
open Go.RowKit Go.Shelf Go.Lib
set_option maxRecDepth 100000 in
set_option maxHeartbeats 1000000 in
theorem texts_same (v u : Value) (xs : List ByteArray) (w : World) (hv : NS w v xs) (hu : NS w u xs) (hl : xs.length ≤ 1000000) :
    Calls Tryz.prog 15 #[v, u] w fun e w' => e = .returned (.bool true) ∧ Below w.heap.size w w' := by
  obtain ⟨p, c, rfl⟩ := hv.shape
  obtain ⟨q, d, rfl⟩ := hu.shape
  obtain ⟨n, hn⟩ : ∃ n, xs.length = n := ⟨_, rfl⟩
  have hvH := hidP (And.intro hv (And.intro hu hn))
  rw [hn] at hl ⊢
  clear hv hu hn
  go_enter Tryz.func15, Tryz.ntmps15
  go_wp2_with fail
  go_loopw [5] (fun i wr => ∃ j : Nat, j ≤ n ∧ i = .int .i64 j ∧ Hid (Below w.heap.size w wr)) (fun i _ => n - (intOf i).toNat)
  case atStart => exact ⟨0, by omega, rfl, Below.refl _ _⟩
  case round =>
    obtain ⟨j, hj, rfl, hI⟩ := hrel
    by_cases hlt : j < n
    · have hltI : (j : Int) < (n : Int) := by omega
      obtain ⟨x, hx⟩ : ∃ x, xs[j]? = some x := ⟨_, List.getElem?_eq_getElem (by have := hvH.out.2.2; omega)⟩
      obtain ⟨hv, hu, hn⟩ := hvH.out
      rcases hv with ⟨_, e⟩ | ⟨g, o, cp, e1, hg, _, _, h3, _⟩
      · rw [e] at hx; cases hx
      rcases hu with ⟨_, e⟩ | ⟨g', o', cp', e1', hg', _, _, h3', _⟩
      · rw [e] at hx; cases hx
      injection e1 with e1 _ e2
      injection e1' with e1' _ e2'
      subst e1 e1' e2 e2'
      have k1 := (Mv.below (E := fun _ => False) hI.out).cell (a := ⟨g, o + j, none⟩) (fun h => h) (h3 j x hx)
      have k2 := (Mv.below (E := fun _ => False) hI.out).cell (a := ⟨g', o' + j, none⟩) (fun h => h) (h3' j x hx)
      clear hx h3 h3' hg hg' hn
      go_wp2_with fail
      go_quiet (fail)
      obtain ⟨W6, hW6⟩ : ∃ W6, wr.drewN nq = W6 := ⟨_, rfl⟩
      rw [hW6]
      have L6 : Hid (Below w.heap.size w W6) := by rw [← hW6]; exact below_drewN hI.out _
      clear hI hW6 k1 k2
      go_wp2_with fail
      exact ⟨⟨j + 1, by omega, by go_num, L6⟩, by simp [intOf]; omega⟩
    · obtain rfl : j = n := by omega
      go_wp2_with fail
      go_ret
      exact ⟨rfl, hI.out⟩
end Go.Proofs.YtedgnigogkmgkaaGreatDoor
/- What is reached, gone through by the law's own taker. -/
namespace Go.Proofs.YtedgnigogkmgkaaGreatDoor
open Go.RowKit Go.Shelf Go.Lib Go.Sort Go.Maps
attribute [local go_sem] Oper.semAt_some
/-- One more text behind a row. -/
theorem NS.push {W : World} {v : Value} {l : List ByteArray} (h : NS W v l) (x : ByteArray) (hl : l.length ≤ 300000) {B : Nat} (hB : W.heap.size = B) :
    ∃ v' W', (Builtin.append_ #[28, 28] 28 #[v, .slice (some ⟨B, 0, none⟩) 1 1]).run Tryz.prog (W.alloc (.cells #[.string x] 9)) = .ok v' W' ∧ NS W' v' (l ++ [x]) ∧ Mv (fun k => nb v = some k) W W' ∧ (nb v' = nb v ∨ ∃ k, nb v' = some k ∧ W.heap.size ≤ k) := by
  subst hB
  obtain ⟨A, hA⟩ : ∃ A, W.alloc (.cells #[.string x] 9) = A := ⟨_, rfl⟩
  have bA : Below W.heap.size W A := by rw [← hA]; exact (Below.refl _ _).alloc (Nat.le_refl _) _
  have ca : A.cell? ⟨W.heap.size, 0, none⟩ = some (.string x) := by rw [← hA]; exact cell_at rfl rfl
  obtain ⟨v2, W2, hr2, sv2, mv2, at2⟩ := (h.mv (E := fun _ => False) (Mv.below bA) (fun _ _ h => h)).append ca (by omega) (c := 1) 28
  rw [hA]
  refine ⟨v2, W2, hr2, sv2, (Mv.below bA).trans' mv2, at2.imp id ?_⟩
  rintro ⟨k, e, hk⟩
  exact ⟨k, e, Nat.le_trans bA.size hk⟩
/-- The taker's row: v in cell A holds l. -/
structure Tg (A : Nat) (v : Value) (W : World) (l : List ByteArray) : Prop where
  cl : Cl A v W
  sv : NS W v l
  ne : nb v ≠ some A
set_option maxRecDepth 100000 in
set_option maxHeartbeats 4000000 in
theorem got1_any (x : ByteArray) (l : List ByteArray) (v : Value) (A : Nat) (w : World) (tk : Tg A v w l) (hl : l.length ≤ 90) :
    Calls Tryz.prog 14 #[.string x, .pointer (some ⟨A, 0, none⟩)] w fun e V => e = .returned (.bool true) ∧ ∃ v', Tg A v' V (l ++ [x]) ∧ Mv (fun k => k = A ∨ nb v = some k) w V ∧ (nb v' = nb v ∨ ∃ k, nb v' = some k ∧ w.heap.size ≤ k) := by
  obtain ⟨cl, sv, nA⟩ := tk
  obtain ⟨B, hB⟩ : ∃ B, w.heap.size = B := ⟨_, rfl⟩
  obtain ⟨v', W2, hrun, sv2, m2, at2⟩ := sv.push x (by omega) hB
  obtain ⟨W1, hW1⟩ : ∃ W1, w.alloc (.cells #[.string x] 9) = W1 := ⟨_, rfl⟩
  rw [hW1] at hrun
  have cl2 : Cl A v W2 := cl.mv m2 nA
  have cl1 : Cl A v W1 := by rw [← hW1]; exact cl.mv (E := fun _ => False) (Mv.alloc _ _ _) (fun q => q)
  obtain ⟨W3, hW3⟩ : ∃ W3, W2.setCell ⟨A, 0, none⟩ v' = W3 := ⟨_, rfl⟩
  have cl3 : Cl A v' W3 := by rw [← hW3]; exact cl2.set v'
  have nA' : nb v' ≠ some A := fun q => by
    rcases at2 with z | ⟨k, z, hk⟩
    · exact nA (z ▸ q)
    · rw [q] at z; injection z with z; have := cl.lt; omega
  have mS : Mv (fun k => k = A) W2 W3 := by rw [← hW3]; exact Mv.set1 (E := fun k => k = A) rfl _
  have sv3 : NS W3 v' (l ++ [x]) := sv2.mv mS (fun k hk e => nA' (e ▸ hk))
  have fin : Hid (∃ v', Tg A v' W3 (l ++ [x]) ∧ Mv (fun k => k = A ∨ nb v = some k) w W3 ∧ (nb v' = nb v ∨ ∃ k, nb v' = some k ∧ w.heap.size ≤ k)) :=
    ⟨v', ⟨cl3, sv3, nA'⟩, (m2.mono fun k _ q => .inr q).trans' (mS.mono fun k _ q => .inl q), at2⟩
  have c0 := cl.c
  have c2 := cl2.c
  have c3 := cl3.c
  have f2 := cl2.f
  obtain ⟨p3, c3', rfl⟩ := sv3.shape
  obtain ⟨n3, hn3⟩ : ∃ n3, (l ++ [x]).length = n3 := ⟨_, rfl⟩
  have hlt : ((n3 : Nat) : Int) < 100 := by rw [← hn3, List.length_append]; simp; omega
  rw [hn3] at c3 hrun hW3
  clear sv sv2 m2 at2 cl1 cl2 cl3 nA' mS sv3 cl nA hn3
  rw [hB] at fin
  go_enter Tryz.func14, Tryz.ntmps14
  go_wp2_with (first | rw [hB] | rw [hW1] | refine wpList_append_run rfl _ _ _ rfl _ _ _ _ rfl rfl hrun ?_ | rw [hW3])
  go_ret
  exact ⟨rfl, fin.out⟩
end Go.Proofs.YtedgnigogkmgkaaGreatDoor
/- The contract of (*Graph).visit. -/
namespace Go.Proofs.YtedgnigogkmgkaaGreatDoor
open Go.RowKit Go.Shelf Go.Lib
attribute [local go_sem] Oper.semAt_some
theorem wpListIn_storeU {F : Fence} {n : Nat} {w W : World} {ops : Array Oper} {rest : List Oper} {o : Oper} {a : Act} {Q : Exit → Act → World → Prop} (hg : o.guard = none) (s x : Operand) (ho : o.op = .store 30 s x) (p : Addr) (hs : a.eval s = .pointer (some p)) (vs : Array Value) (hx : a.eval x = .agg vs) (hz : vs.size = 33)
    (hr : (storeCells p vs.toList).run Tryz.prog w = .ok () W) (h : wpListIn F n Tryz.prog ops Q rest (a.put o.dst undef) W) : wpListIn F n Tryz.prog ops Q (o :: rest) a w := by
  refine wpListIn_plain hg fun K hK' => ?_
  unfold Oper.wpIn
  refine ⟨?_, ?_⟩
  · simp [Oper.about, ho]
  · rw [Oper.semAt_plain F _ _ (by rw [ho]; intro c hc'; cases hc')]
    simp [execOp, ho, hs, hx, storeAtU hz hr, Result.andThen]
    exact hK' _ _ h
set_option maxHeartbeats 1000000 in
theorem leading_any (k : Int) (w : World) : Calls Tryz.prog 143 #[.int .i64 k] w fun e w' => e = .returned (.bool (led k)) ∧ w' = w := by
  have hA : Hid (led k = ((decide (1 ≤ k) && decide (k ≤ 5)) || decide (k = 8))) := rfl
  go_enter Tryz.func143, Tryz.ntmps143
  go_wp2
  all_goals
    go_ret
    refine ⟨ret_bool ?_, rfl⟩
    rw [hA.out]
    first | (simp; omega) | (rw [Bool.eq_iff_iff]; simp; omega) | (rw [Bool.eq_iff_iff]; simp at *; omega)
/-- Where a visit's loop stands. -/
def VJ (L : UL) (X : List ByteArray) (x : ByteArray) (xs : List Ed) (sb : Nat) (rest : List Ed) (E : Nat → Prop) (W : World) : Prop :=
  (∀ k, E k ↔ k = sb) ∧ (∀ e ∈ rest, okE e ∧ fw (kL L) x e ≠ 0) ∧ ∃ X1, Xs W sb X1 ∧ VI L X x xs rest X1 ∧ X1.length + lft L X1 ≤ 1000
theorem VJ.ter {L : UL} {X : List ByteArray} {x : ByteArray} {xs : List Ed} {sb B : Nat} : Ter B (VJ L X x xs sb) :=
  ⟨fun s E W V h m => by
    obtain ⟨h1, h2, X1, h3, h4⟩ := h
    exact ⟨h1, h2, X1, h3.mv m (fun f => f.1 ((h1 sb).2 rfl)), h4⟩, fun s E W h k hk => by
    obtain ⟨h1, h2, X1, h3, h4⟩ := h
    obtain rfl := (h1 k).1 hk
    exact h3.m.lt⟩
theorem VJ.perm {L : UL} {X : List ByteArray} {x : ByteArray} {xs s s' : List Ed} {sb : Nat} {E : Nat → Prop} {W : World} (hp : s.Perm s') (h : VJ L X x xs sb s E W) : VJ L X x xs sb s' E W := by
  obtain ⟨h1, h2, X1, h3, h4, h5⟩ := h
  exact ⟨h1, fun e he => h2 e (hp.mem_iff.2 he), X1, h3, h4.perm hp, h5⟩
def VX (_ : Code) (_ : Nat → Prop) (_ : World) : Prop := False
theorem VX.ter (B : Nat) : Ter B VX := ⟨fun _ _ _ _ h _ => h.elim, fun _ _ _ h => h.elim⟩
/-- What a visit leaves. -/
def VisP (L : UL) (X : List ByteArray) (x : ByteArray) (sb : Nat) (w : World) (e : Ending) (V : World) : Prop :=
  e = .returned (.tuple #[]) ∧ ∃ X', Xs V sb X' ∧ Vis L X x X' ∧ X'.length + lft L X' ≤ 1000 ∧ Mv (fun k => k = sb) w V
set_option maxRecDepth 100000 in
set_option maxHeartbeats 8000000 in
theorem visit_any (S : GS) (L : UL) (sb : Nat) (hc : S.c ≤ 400000) (nS : ¬ hasG S sb) (nU : ∀ p ∈ L, ∀ b, ubk p.1 b → b ≠ sb) : ∀ (N : Nat) (X : List ByteArray) (x : ByteArray) (w : World), lft L X < N → Gs w S L → Xs w sb X → x.size ≤ 1000 → X.length + lft L X ≤ 1000 →
    Calls Tryz.prog 106 #[.pointer (some ⟨S.gb, 0, none⟩), .string x, .map (some sb)] w (VisP L X x sb w)
  | 0, _, _, _, h, _, _, _, _ => absurd h (Nat.not_lt_zero _)
  | N + 1, X, x, w, hN, h, hX, hx, hXl => by
    have IH := hidP (visit_any S L sb hc nS nU N)
    obtain ⟨gb, hgb⟩ : ∃ gb, S.gb = gb := ⟨_, rfl⟩
    obtain ⟨ub, hub⟩ : ∃ ub, S.ub = ub := ⟨_, rfl⟩
    obtain ⟨B, hB⟩ : ∃ B, w.heap.size = B := ⟨_, rfl⟩
    obtain ⟨W0, hW0⟩ : ∃ W0, (w.alloc (.cells #[.pointer (some ⟨gb, 0, none⟩)] 24)).alloc (.cells #[.map (some sb)] 112) = W0 := ⟨_, rfl⟩
    have b0 : Below w.heap.size w W0 := by rw [← hW0]; exact ((Below.refl _ _).alloc (Nat.le_refl _) _).alloc (by simp) _
    have s0 : W0.heap.size = B + 2 := by rw [← hW0]; simp [hB]
    have c0 : W0.cell? ⟨B, 0, none⟩ = some (.pointer (some ⟨gb, 0, none⟩)) := by
      rw [← hW0, World.cell?_alloc_lt _ _ _ (by simp; omega)]
      exact cell_at hB rfl
    have c1 : W0.cell? ⟨B + 1, 0, none⟩ = some (.map (some sb)) := by rw [← hW0]; exact cell_at (by simp; omega) rfl
    have G0 := h.below b0
    have X0 := hX.mv (Mv.below (E := fun _ => False) b0) (fun q => q)
    have k0 := G0.c0
    rw [hgb, hub] at k0
    have hlu := G0.un.look lawS (t := 101) Tryz.underlying101 (zeroUn W0) (a := x) (keyS hx)
    rw [hub] at hlu
    obtain ⟨uv, huv⟩ : ∃ uv, ((lku L x).map fun p => Value.agg p.1).getD (.agg zuA) = uv := ⟨_, rfl⟩
    obtain ⟨th, hth⟩ : ∃ th, ((lku L x).map fun p => Value.agg p.1).isSome = th := ⟨_, rfl⟩
    rw [huv, hth] at hlu
    have huv2 : ∃ cs : Array Value, uv = .agg cs ∧ cs.size = 33 := by
      rw [← huv]
      cases q : lku L x with
      | none => exact ⟨zuA, rfl, rfl⟩
      | some p => exact ⟨p.1, rfl, ((h.uv p (lku_mem q).1).1).sz⟩
    obtain ⟨cs, rfl, hcs⟩ := huv2
    have lsb : sb < B := by rw [← hB]; exact hX.m.lt
    have hone : ∀ (p : Nat) (v : Value), cs[p]? = some v → v.oneCell' = true := by
      cases q : lku L x with
      | none =>
        rw [q] at huv; injection huv with huv; rw [← huv]; exact zu_one
      | some p =>
        rw [q] at huv; injection huv with huv; rw [← huv]; exact ((h.uv p (lku_mem q).1).1).on
    obtain ⟨W1, hW1⟩ : ∃ W1, W0.alloc (.cells zuA 30) = W1 := ⟨_, rfl⟩
    obtain ⟨W2, hst, _, b2⟩ := fresh_store (W := W0) hcs hone zuA 30 rfl
    rw [hW1, s0] at hst
    have b02 : Below w.heap.size w W2 := b0.trans (b2.mono (by omega))
    have c0' := bcell b2 (by show B < _; omega) c0
    have c1' := bcell b2 (by show B + 1 < _; omega) c1
    have X2 := X0.mv (Mv.below (E := fun _ => False) b2) (fun q => q)
    have hls := X2.look hx
    have hthD : th = true ↔ Dom L x := by rw [← hth, Option.isSome_map]; exact Iff.rfl
    have hsW1 : W1.heap.size = B + 3 := by rw [← hW1]; simp [s0]
    rw [hgb]
    unfold zuA at hW1
    cases hthv : th with
    | false =>
      rw [hthv] at hlu hthD
      have fin : Hid (VisP L X x sb w (.returned (.tuple #[])) W2) := ⟨rfl, X, X2, Vis.stay (.inl fun q => by have := hthD.2 q; cases this), hXl, Mv.below b02⟩
      clear IH G0 X0 X2 hX h hthD b0 b2 b02 hls c1' c0' hone huv hth
      refine (callsIn_wide (n := 5)).1 ?_
      refine callsIn_of_wp_marks Tryz.func106 rfl trivial ?_ rfl
      simp only [Tryz.ntmps106, List.size_toArray, List.length_cons, List.length_nil, Nat.reduceAdd, Nat.reduceSub, Array.replicate_succ, Array.replicate_zero, List.push_toArray, List.append_toArray, List.nil_append, List.cons_append]
      gi_wp2_with (first | rw [hW0] | rw [hW1] | rw [s0] | refine wpListIn_storeU rfl _ _ rfl _ rfl _ rfl hcs hst ?_)
      exact ⟨_, results_none rfl _ _ _, fin.out⟩
    | true =>
      rw [hthv] at hlu hthD
      have hD : Dom L x := hthD.1 rfl
      obtain ⟨W3, hW3⟩ : ∃ W3, W2.alloc (.cells #[] 113) = W3 := ⟨_, rfl⟩
      have b3 : Below W2.heap.size W2 W3 := by rw [← hW3]; exact (Below.refl _ _).alloc (Nat.le_refl _) _
      have b03 : Below w.heap.size w W3 := b02.trans (b3.mono b02.size)
      have X3 := X2.mv (Mv.below (E := fun _ => False) b3) (fun q => q)
      have c0w := bcell b3 (cell_lt c0') c0'
      have c1w := bcell b3 (cell_lt c1') c1'
      cases hm : memB x X with
      | true =>
        rw [hm] at hls
        have fin : Hid (VisP L X x sb w (.returned (.tuple #[])) W3) := ⟨rfl, X, X3, Vis.stay (.inr (memB_iff.1 hm)), hXl, Mv.below b03⟩
        clear IH G0 X0 X2 X3 hX h hthD b0 b2 b02 b3 b03 c0w c1w c0' hone huv hth hm hD
        refine (callsIn_wide (n := 5)).1 ?_
        refine callsIn_of_wp_marks Tryz.func106 rfl trivial ?_ rfl
        simp only [Tryz.ntmps106, List.size_toArray, List.length_cons, List.length_nil, Nat.reduceAdd, Nat.reduceSub, Array.replicate_succ, Array.replicate_zero, List.push_toArray, List.append_toArray, List.nil_append, List.cons_append]
        gi_wp2_with (first | rw [hW0] | rw [hW1] | rw [s0] | rw [hW3] | refine wpListIn_storeU rfl _ _ rfl _ rfl _ rfl hcs hst ?_)
        exact ⟨_, results_none rfl _ _ _, fin.out⟩
      | false =>
        rw [hm] at hls
        have hnX : x ∉ X := fun q => by rw [memB_t q] at hm; cases hm
        obtain ⟨W4, hup, X4, m4⟩ := X3.store hx hnX (by omega)
        have c0x := m4.cell (a := ⟨B, 0, none⟩) (by show ¬ B = sb; omega) c0w
        have c1x := m4.cell (a := ⟨B + 1, 0, none⟩) (by show ¬ B + 1 = sb; omega) c1w
        have mw4 : Mv (fun k => k = sb) w W4 := (Mv.below b03).trans' m4
        have s34 := m4.size
        have hed := Edges_any gb x W4
        obtain ⟨B4, hB4⟩ : ∃ B4, W4.heap.size = B4 := ⟨_, rfl⟩
        obtain ⟨W5, hW5⟩ : ∃ W5, (W4.alloc (.cells #[.pointer (some ⟨gb, 0, none⟩)] 24)).alloc (.cells #[.string x] 9) = W5 := ⟨_, rfl⟩
        rw [hW5, hB4] at hed
        have b5 : Below W4.heap.size W4 W5 := by rw [← hW5]; exact ((Below.refl _ _).alloc (Nat.le_refl _) _).alloc (by simp) _
        have s5 : W5.heap.size = B4 + 2 := by rw [← hW5]; simp [hB4]
        have e1 : W5.cell? ⟨B4, 0, none⟩ = some (.pointer (some ⟨gb, 0, none⟩)) := by
          rw [← hW5, World.cell?_alloc_lt _ _ _ (by simp; omega)]
          exact cell_at hB4 rfl
        have e2 : W5.cell? ⟨B4 + 1, 0, none⟩ = some (.string x) := by rw [← hW5]; exact cell_at (by simp; omega) rfl
        have X5 := X4.mv (Mv.below (E := fun _ => False) b5) (fun q => q)
        have mw5 : Mv (fun k => k = sb) w W5 := mw4.trans' (Mv.below b5)
        have G5 : Gs W5 S L := h.mv mw5 (fun k hk e => nS (e ▸ hk)) nU
        have d0 := bcell b5 (cell_lt c0x) c0x
        have d1 := bcell b5 (cell_lt c1x) c1x
        obtain ⟨xs, hnd, hxs⟩ := h.ed.e1.row x
        have hrow := edges_row S L W5 x B4 (B4 + 1) (fun k => k = sb) G5 hc hx (by rw [hgb]; exact e1) e2 (by have := cell_lt c0x; change B < W4.heap.size at this; omega) (by have := cell_lt c0x; change B < W4.heap.size at this; omega) (fun k hk e => nS (e ▸ hk)) nU hnd hxs
        have hI0 : Hid (VJ L X x xs sb xs (fun k => k = sb) W5) := ⟨fun _ => Iff.rfl, fun e he => ⟨h.ed.e1.ok x e ((hxs e).1 he), (hxs e).1 he⟩, x :: X, X5, VI.start, by have := lft_lt hD hnX; simp only [List.length_cons]; omega⟩
        have hrowH := hidP hrow
        have hall : Hid (lft L X < N + 1 ∧ Dom L x ∧ x ∉ X ∧ (∀ e, e ∈ xs ↔ fw (kL L) x e ≠ 0) ∧ Gs w S L ∧ Mv (fun k => k = sb) w W5) := ⟨hN, hD, hnX, hxs, h, mw5⟩
        have lB : Hid (B + 1 < W5.heap.size ∧ w.heap.size = B) := ⟨cell_lt d1, hB⟩
        have cH : Hid (W5.cell? ⟨B, 0, none⟩ = some (.pointer (some ⟨gb, 0, none⟩)) ∧ W5.cell? ⟨B + 1, 0, none⟩ = some (.map (some sb))) := ⟨d0, d1⟩
        clear G0 X0 X2 X3 X4 X5 hX h hthD b0 b2 b02 b3 b03 c0' hone huv hth hm hD hnX m4 mw4 e1 e2 mw5 G5 hrow hnd hxs hXl b5 hN
        refine (callsIn_wide (n := 5)).1 ?_
        refine callsIn_of_wp_marks Tryz.func106 rfl trivial ?_ rfl
        simp only [Tryz.ntmps106, List.size_toArray, List.length_cons, List.length_nil, Nat.reduceAdd, Nat.reduceSub, Array.replicate_succ, Array.replicate_zero, List.push_toArray, List.append_toArray, List.nil_append, List.cons_append]
        gi_wp2_with (first | rw [hW0] | rw [hW1] | rw [s0] | rw [hW3] | refine wpListIn_storeU rfl _ _ rfl _ rfl _ rfl hcs hst ?_)
        refine ⟨trivial, (callsIn_wide.2 hed).mono ?_⟩
        rintro e w9 ⟨rfl, hw9⟩
        replace hw9 := hw9.symm
        subst hw9
        clear hed
        gi_wp2_with fail
        have tI : Ter W5.heap.size (VJ L X x xs sb) := VJ.ter
        refine loop_outP (gf := 149) (lb := #[.pointer (some ⟨B4, 0, none⟩), .pointer (some ⟨B4 + 1, 0, none⟩)]) rfl eg_edges hrowH.out (fun _ => rfl) (VJ L X x xs sb) (fun _ _ _ _ hp h => VJ.perm hp h) VX tI (VX.ter _) hI0.out ?round ?done ?stop
        case round =>
          intro l9 hl9 y rest E2 U hi hm hg hEl hrec
          have hlt : l9 < U.heap.size := by obtain ⟨r, hr⟩ := hrec; exact (Array.getElem?_eq_some_iff.1 hr).1
          obtain ⟨x0, x1, x2⟩ := y
          simp only [Eg.enE]
          gi_wp2_with fail
          refine ⟨⟨Mv.alloc _ _ _, Below.heap_alloc _ _ _ hlt⟩, fun U2 tw => ?_⟩
          obtain ⟨hi2, hm2⟩ := tw.go tI hi (Mv.alloc _ _ _) hm (Nat.le_refl _) hl9 hEl
          obtain ⟨eb, heb⟩ : ∃ eb, U.heap.size = eb := ⟨_, rfl⟩
          have y0 : U2.cell? ⟨eb, 0, none⟩ = some (.int .i64 x0) := tw.mv.cell (a := ⟨eb, 0, none⟩) (by show ¬ eb = l9; omega) (cell_at heb rfl)
          have y1 : U2.cell? ⟨eb, 1, none⟩ = some (.string x1) := tw.mv.cell (a := ⟨eb, 1, none⟩) (by show ¬ eb = l9; omega) (cell_at heb rfl)
          have y2 : U2.cell? ⟨eb, 2, none⟩ = some (.string x2) := tw.mv.cell (a := ⟨eb, 2, none⟩) (by show ¬ eb = l9; omega) (cell_at heb rfl)
          obtain ⟨q1, q2, X1, q3, q4, q5⟩ := hi2
          have u0 := hm2.cell (a := ⟨B, 0, none⟩) (by show ¬ B = sb; omega) cH.out.1
          have u1 := hm2.cell (a := ⟨B + 1, 0, none⟩) (by show ¬ B + 1 = sb; omega) cH.out.2
          have okx := q2 (x0, x1, x2) (List.mem_cons_self ..)
          have hq2 : Hid (∀ e ∈ rest, okE e ∧ fw (kL L) x e ≠ 0) := fun e he => q2 e (List.mem_cons_of_mem _ he)
          have hq1 := hidP q1
          have hld := leading_any x0 U2
          cases hl : led x0 with
          | false =>
            rw [hl] at hld
            have fin : Hid (VJ L X x xs sb rest E2 U2) := ⟨q1, hq2.out, X1, q3, q4.skip hl, q5⟩
            clear hi hm hm2 tw hrec q1 q2 q3 q4 q5 okx hlt hg IH
            gi_wp2_with fail
            refine ⟨trivial, (CallsIn.inRound l9 (callsIn_wide.2 hld)).mono ?_⟩
            rintro e w9 ⟨rfl, hw9⟩
            replace hw9 := hw9.symm
            subst hw9
            clear hld
            gi_wp2_with fail
            exact ⟨Mv.refl _ _, E2, Gr.refl _ _, fin.out⟩
          | true =>
            rw [hl] at hld
            have hLd : Ld L x x2 := ⟨x0, hl, by
              have h1 := okx.2
              unfold fw at h1
              split at h1
              · next e => have e : x1 = x := e; rw [← e]; exact h1
              · exact absurd rfl h1⟩
            have hG2 : Gs U2 S L := (hall.out.2.2.2.2.1).mv (hall.out.2.2.2.2.2.trans' hm2) (fun k hk e => nS (e ▸ hk)) nU
            have hvis := hidP (fun W (m : Mv (fun _ => False) U2 W) => IH.out X1 x2 W (by
              have h1 := lft_lt hall.out.2.1 hall.out.2.2.1
              have h2 : lft L X1 ≤ lft L (x :: X) := lft_le (fun z hz => (List.mem_cons.1 hz).elim (fun e => e ▸ q4.at_) (q4.sub z))
              have := hall.out.1
              omega) (hG2.mv m (fun _ _ q => q) (fun _ _ _ _ q => q)) (q3.mv m (fun q => q)) okx.1.2.2 q5)
            have fin : Hid (∀ W e V, Mv (fun _ => False) U2 W → VisP L X1 x2 sb W e V → e = .returned (.tuple #[]) ∧ Hid (Mv E2 U2 V ∧ ∃ E', Gr E2 U2 E' ∧ VJ L X x xs sb rest E' V)) := by
              rintro W e V mW ⟨rfl, X2, z1, z2, z3, z4⟩
              exact ⟨rfl, (mW.mono (fun _ _ q => q.elim)).trans' (z4.mono (fun k _ e => (q1 k).2 e)), E2, Gr.refl _ _, q1, hq2.out, X2, z1, q4.step hl hLd z2, z3⟩
            clear hi hm hm2 tw hrec q1 q2 q3 q4 q5 okx hlt hg IH hG2 hLd
            gi_wp2_with fail
            refine ⟨trivial, (CallsIn.inRound l9 (callsIn_wide.2 hld)).mono ?_⟩
            rintro e w9 ⟨rfl, hw9⟩
            replace hw9 := hw9.symm
            subst hw9
            clear hld
            gi_wp2_with fail
            have hv := hvis.out U2 (Mv.refl _ _)
            rw [hgb] at hv
            refine ⟨trivial, (CallsIn.inRound l9 (callsIn_wide.2 hv)).mono ?_⟩
            intro e V hq
            obtain ⟨rfl, f2⟩ := fin.out U2 e V (Mv.refl _ _) hq
            clear hq hvis hv fin
            gi_wp2_with fail
            exact f2.out
        case done =>
          intro D E2 U hD hK hnD hm hg hi
          gi_wp2_with fail
          refine ⟨by simp, .inl ⟨_, _, rfl, run_takeDeferred hK, ?_⟩⟩
          obtain ⟨q1, q2, X1, q3, q4, q5⟩ := hi
          have mP : Mv (fun j => j = D) U (U.putObj D (.deferred none)) := Mv.put (E := fun j => j = D) rfl _
          refine ⟨_, results_none rfl _ _ _, rfl, X1, q3.mv mP (fun q => hnD (by rw [← q]; exact (q1 sb).2 rfl)), q4.fin hall.out.2.1 hall.out.2.2.2.1, q5, ?_⟩
          exact (hall.out.2.2.2.2.2.trans' hm).put_new (by have := lB.out; have := hall.out.2.2.2.2.2.size; omega) _
        case stop =>
          intro D c E2 U hD hK hnD hm hg hi
          exact hi.elim
end Go.Proofs.YtedgnigogkmgkaaGreatDoor
/- The contract of (*Graph).reach. -/
namespace Go.Proofs.YtedgnigogkmgkaaGreatDoor
open Go.RowKit Go.Shelf Go.Lib
theorem NR.at {w : World} {v : Value} {xs : List ByteArray} (h : NR w v xs) {j : Nat} {x : ByteArray} (hx : xs[j]? = some x) : ∃ b o c, v = .slice (some ⟨b, o, none⟩) xs.length c ∧ rbk v = some b ∧ w.cell? ⟨b, o + j, none⟩ = some (.string x) := by
  rcases h with ⟨rfl, _⟩ | ⟨b, o, c, rfl, h1, h2, h3⟩
  · cases hx
  · refine ⟨b, o, c, rfl, ?_, h3 j x hx⟩
    unfold rbk; simp [h1]
set_option maxRecDepth 100000 in
set_option maxHeartbeats 8000000 in
theorem reach_any (S : GS) (L : UL) (rs : List ByteArray) (v : Value) (w : World) (h : Gs w S L) (hc : S.c ≤ 400000) (hL : L.length ≤ 1000) (hv : NR w v rs) (hr : ∀ x ∈ rs, x.size ≤ 1000) (hl : rs.length ≤ 1000) :
    Calls Tryz.prog 65 #[.pointer (some ⟨S.gb, 0, none⟩), v] w fun e V => ∃ sb X, e = .returned (.map (some sb)) ∧ Xs V sb X ∧ VR L rs X ∧ X.length ≤ 1000 ∧ Below w.heap.size w V ∧ w.heap.size ≤ sb := by
  obtain ⟨p, c, rfl⟩ := hv.shape
  obtain ⟨n, hn⟩ : ∃ n, rs.length = n := ⟨_, rfl⟩
  obtain ⟨gb, hgb⟩ : ∃ gb, S.gb = gb := ⟨_, rfl⟩
  obtain ⟨sb, hsb⟩ : ∃ sb, w.heap.size = sb := ⟨_, rfl⟩
  rw [hn] at hv hl ⊢
  have l0 : lft L [] ≤ 1000 := by unfold lft; have := List.length_filter_le (fun p : Array Value × Un => !memB p.2.nm []) L; omega
  have hI0 : Hid (∃ X, Xs (w.alloc (.map #[] 0)) sb X ∧ VR L (rs.take 0) X ∧ X.length + lft L X ≤ 1000 ∧ Below w.heap.size w (w.alloc (.map #[] 0))) :=
    ⟨[], by rw [← hsb]; exact Xs.made w, VR.nil L, by simpa using l0, (Below.refl _ _).alloc (Nat.le_refl _) _⟩
  have hH := hidP (And.intro h (And.intro hv (And.intro hr (And.intro hn (And.intro hc (And.intro hgb hsb))))))
  rw [hgb]
  clear h hv hr hc l0
  have hmm := @run_makeMap Tryz.prog
  go_enter Tryz.func65, Tryz.ntmps65
  go_wp2_with (rw [hsb])
  go_loopw [11] (fun i wr => ∃ k : Nat, k ≤ n ∧ i = .int .i64 k ∧ Hid (∃ X, Xs wr sb X ∧ VR L (rs.take k) X ∧ X.length + lft L X ≤ 1000 ∧ Below w.heap.size w wr)) (fun i _ => n - (intOf i).toNat)
  case atStart => exact ⟨0, by omega, rfl, hI0⟩
  case round =>
    obtain ⟨k, hk, rfl, hI⟩ := hrel
    obtain ⟨h, hv, hr, hn, hc, hgb, hsb⟩ := hH.out
    by_cases hlt : k < n
    · have hltI : (k : Int) < (n : Int) := by omega
      obtain ⟨x, hx⟩ : ∃ x, rs[k]? = some x := ⟨_, List.getElem?_eq_getElem (by omega)⟩
      obtain ⟨X, h1, h2, h3, h4⟩ := hI.out
      rw [← hn] at hv
      obtain ⟨b, o, c', e1, hb, hc0⟩ := hv.at hx
      injection e1 with e1 _ e2
      subst e1 e2
      have lv := hv.lt hb
      have hcell := bcell h4 (by show b < _; omega) hc0
      have hG := h.below (h4.mono (by omega))
      have hvis := visit_any S L sb hc (fun q => by have := h.lt q; omega) (fun p hp b hb e => by have := (h.uv p hp).1.lt hb; omega) (lft L X + 1) X x wr (Nat.lt_succ_self _) hG h1 (hr x (List.mem_of_getElem? hx)) h3
      rw [hgb] at hvis
      have fin : Hid (∀ e V, VisP L X x sb wr e V → e = .returned (.tuple #[]) ∧ Hid (∃ X, Xs V sb X ∧ VR L (rs.take (k + 1)) X ∧ X.length + lft L X ≤ 1000 ∧ Below w.heap.size w V)) := by
        rintro e V ⟨rfl, X', q1, q2, q3, q4⟩
        refine ⟨rfl, X', q1, ?_, q3, h4.trans (q4.toBelow (n := w.heap.size) h4.size (fun k hk e => by omega))⟩
        rw [List.take_add_one, hx]
        exact h2.add q2
      clear hI h1 h2 h3 h4 hv hr h hc hc0 hx hG lv hI0
      go_wp2_with fail
      refine hvis.mono ?_
      intro e V hq
      obtain ⟨rfl, hI⟩ := fin.out e V hq
      clear hq fin hvis
      go_wp2_with fail
      exact ⟨⟨k + 1, by omega, by go_num, hI⟩, by simp [intOf]; omega⟩
    · obtain rfl : k = n := by omega
      have fin : Hid (∃ X, Xs wr sb X ∧ VR L rs X ∧ X.length ≤ 1000 ∧ Below w.heap.size w wr) := by
        obtain ⟨X, h1, h2, h3, h4⟩ := hI.out
        rw [List.take_of_length_le (by omega)] at h2
        exact ⟨X, h1, h2, by omega, h4⟩
      clear hI hI0 h hv hr hc
      go_wp2_with fail
      go_ret
      obtain ⟨X, h1, h2, h3, h4⟩ := fin.out
      exact ⟨sb, X, rfl, h1, h2, h3, h4, by omega⟩
end Go.Proofs.YtedgnigogkmgkaaGreatDoor
