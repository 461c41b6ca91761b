/- The contract of package tree's countMount. -/
import Derived.Test.YtnniahlacfflmaaDoorTH
import Derived.Test.YtnniahlacfflmaaDoorRR
namespace Go.Proofs.YtnniahlacfflmaaDoor
open Go.RowKit Go.Shelf
attribute [local go_sem] Oper.semAt_some
/-- How far it has come. -/
def CJ (S : St) (d : Int) (P : ByteArray → Nd) (rest : List ByteArray) (E : Nat → Prop) (W : World) : Prop :=
  (∀ j, E j ↔ (j = S.bh ∨ j = S.bs)) ∧ ∃ (nd : ByteArray → Nd) (k : Nat), k + rest.length ≤ 1000 ∧ Hid (bumpU d rest nd = P) ∧ Ts W { S with p := { S.p with nd := nd }, c := S.c + k } ∧ Hid (∀ x ∈ rest, x ∈ S.p.ks ∧ x.size ≤ 1000)
def CX (_ : Code) (_ : Nat → Prop) (_ : World) : Prop := False
theorem CX.ter (b : Nat) : Ter b CX := ⟨fun _ _ _ _ h _ => h.elim, fun _ _ _ h => h.elim⟩
theorem CJ.ter (S : St) (d : Int) (P : ByteArray → Nd) (B : Nat) (hB : S.bt < B) (hM : 0 < B) : Ter B (CJ S d P) :=
  ⟨fun r E W V h m => by
    obtain ⟨hE, nd, k, h1, h2, h3, h4⟩ := h
    refine ⟨hE, nd, k, h1, h2, h3.mv m (fun j hj q => ?_), h4⟩
    rcases hj with rfl | rfl | rfl | rfl
    · have : B ≤ S.bt := q.2; omega
    · exact q.1 ((hE _).2 (.inl rfl))
    · exact q.1 ((hE _).2 (.inr rfl))
    · have := q.2; omega,
   fun r E W h j hj => by
    obtain ⟨hE, nd, k, h1, h2, h3, h4⟩ := h
    rcases (hE j).1 hj with rfl | rfl
    · exact h3.lt (k := S.bh) (.inr (.inl rfl))
    · exact h3.lt (k := S.bs) (.inr (.inr (.inl rfl)))⟩
set_option maxRecDepth 100000 in
set_option maxHeartbeats 4000000 in
theorem countMount_any (S : St) (s : ByteArray) (d : Int) (w : World) (h : Ts w S) (hh : hd (byt s)) (hs : s.size ≤ 1000) (hd1 : -1 ≤ d) (hd2 : d ≤ 1) (hk : ∀ x ∈ abv s, x ∈ S.p.ks) (hc : S.c ≤ 900001) :
    Calls Tryd.prog 38 #[.pointer (some ⟨S.bt, 0, none⟩), .string s, .int .i64 d] w fun e w' => e = .returned (.tuple #[]) ∧ Goes S w { S.p with nd := bumpU d (abv s) S.p.nd } 1000 w' := by
  have hbt : S.bt < w.heap.size := h.lt (.inl rfl)
  have hbh : S.bh < w.heap.size := h.lt (.inr (.inl rfl))
  have hbs : S.bs < w.heap.size := h.lt (.inr (.inr (.inl rfl)))
  have hmx : 0 < w.heap.size := h.lt (.inr (.inr (.inr rfl)))
  obtain ⟨W0, hW0⟩ : ∃ W0, (w.alloc (.cells #[.pointer (some ⟨S.bt, 0, none⟩)] 24)).alloc (.cells #[.int .i64 d] 3) = W0 := ⟨_, rfl⟩
  have b0 : Below w.heap.size w W0 := by rw [← hW0]; exact ((Below.refl _ _).alloc (Nat.le_refl _) _).alloc (by simp) _
  have hs0 : W0.heap.size = w.heap.size + 2 := by rw [← hW0]; simp
  have p0 : W0.cell? ⟨w.heap.size, 0, none⟩ = some (.pointer (some ⟨S.bt, 0, none⟩)) := by rw [← hW0, World.cell?_alloc_lt _ _ _ (by simp)]; exact cell_at rfl rfl
  have p1 : W0.cell? ⟨w.heap.size + 1, 0, none⟩ = some (.int .i64 d) := by rw [← hW0]; exact cell_at (by simp) rfl
  have hA := hidP (above_any s W0)
  have h0 := hidP (And.intro (h.below b0) (And.intro b0 (And.intro p0 p1)))
  have hlen := abv_len hh
  have hsm : ∀ x ∈ abv s, x ∈ S.p.ks ∧ x.size ≤ 1000 := fun x hx => ⟨hk x hx, by have := (abv_lt hh hx).1; omega⟩
  have hsmH := hidP hsm
  have hhH := hidP hh
  have hz := hidP (And.intro hbt (And.intro hbh (And.intro hbs hmx)))
  have hs0H := hidP hs0
  clear h hk b0 p0 p1 hsm hh hbt hbh hbs hmx hs0
  refine (callsIn_wide (n := 5)).1 ?_
  refine callsIn_of_wp_marks Tryd.func38 rfl trivial ?_ rfl
  simp only [Tryd.ntmps38, List.size_toArray, List.length_cons, List.length_nil, Nat.reduceAdd, Nat.reduceSub, Array.replicate_succ, Array.replicate_zero, List.push_toArray, List.append_toArray, List.nil_append, List.cons_append]
  gi_wp2_with (rw [hW0])
  refine ⟨trivial, (callsIn_wide.2 hA.out).mono ?_⟩
  rintro e W1 ⟨rfl, hW1⟩
  obtain ⟨T0, b0, p0, p1⟩ := h0.out
  have hs0 := hs0H.out
  obtain ⟨hbt, hbh, hbs, hmx⟩ := hz.out
  have b1 : Below W0.heap.size W0 W1 := by rw [hW1]; exact (Below.refl _ _).alloc (Nat.le_refl _) _
  have hs1 : W1.heap.size = W0.heap.size + 1 := by rw [hW1]; simp
  have T1 := T0.below b1
  have q0 : W1.cell? ⟨w.heap.size, 0, none⟩ = some (.pointer (some ⟨S.bt, 0, none⟩)) := (b1.cell (p := ⟨w.heap.size, 0, none⟩) (by show w.heap.size < _; omega)).trans p0
  have q1 : W1.cell? ⟨w.heap.size + 1, 0, none⟩ = some (.int .i64 d) := (b1.cell (p := ⟨w.heap.size + 1, 0, none⟩) (by show w.heap.size + 1 < _; omega)).trans p1
  have q2 : W1.cell? ⟨W0.heap.size, 0, none⟩ = some (.string s) := by rw [hW1]; exact cell_at rfl rfl
  obtain ⟨E, hE⟩ : ∃ E : Nat → Prop, ∀ k, E k ↔ (k = S.bh ∨ k = S.bs) := ⟨_, fun _ => Iff.rfl⟩
  have nE : ∀ {k}, k ≠ S.bh → k ≠ S.bs → ¬ E k := fun {k} h1 h2 q => by rcases (hE k).1 q with e | e; exact h1 e; exact h2 e
  have hrow := above_row s W0.heap.size E W1 hhH.out (by omega) q2 (nE (by omega) (by omega))
  rw [hs0] at hrow
  rw [hs0]
  have tI := CJ.ter S d (bumpU d (abv s) S.p.nd) W1.heap.size (by omega) (by omega)
  have h0I : CJ S d (bumpU d (abv s) S.p.nd) (abv s) E W1 := ⟨hE, S.p.nd, 0, by omega, rfl, T1, hsmH.out⟩
  have hKeep : Hid (∀ U, Mv E W1 U → U.cell? ⟨w.heap.size, 0, none⟩ = some (.pointer (some ⟨S.bt, 0, none⟩)) ∧ U.cell? ⟨w.heap.size + 1, 0, none⟩ = some (.int .i64 d)) := fun U m => ⟨m.cell (a := ⟨w.heap.size, 0, none⟩) (nE (k := w.heap.size) (by omega) (by omega)) q0, m.cell (a := ⟨w.heap.size + 1, 0, none⟩) (nE (k := w.heap.size + 1) (by omega) (by omega)) q1⟩
  have hfinM : Hid (∀ U, Mv E W1 U → Mv (own S) w U) := fun U m => ((Mv.below b0).trans' ((Mv.below (b1.mono (Nat.le_refl _))))).trans' (m.mono (fun k _ e => (hE k).1 e))
  have hsw : Hid (w.heap.size + 1 < W1.heap.size) := by show _ < _; omega
  clear hW1 hW0 hA T0 b0 p0 p1 b1 T1 q0 q1 q2 h0 hs1
  gi_wp2_with fail
  clear hs0 hbt hbh hbs hmx
  refine loop_out (gf := 54) (lb := #[.pointer (some ⟨w.heap.size + 2, 0, none⟩)]) rfl (enters_of Tryd.func54 (by kernel_rfl) rfl) hrow (fun _ => rfl) (CJ S d (bumpU d (abv s) S.p.nd)) CX tI (CX.ter _) h0I ?round ?done ?stop
  case stop => rintro D c' E2 U _ _ _ _ _ h; exact h.elim
  case round =>
    rintro l1 hl1 x rest E2 U hi hm hgr hEl hrec
    simp only [encA]
    gi_wp2
    refine ⟨⟨Mv.refl _ _, trivial⟩, fun U2 tw => ?_⟩
    obtain ⟨⟨hE2, nd, k, hk1, hk2, hT, hmem⟩, hm2⟩ := tw.go tI hi (Mv.refl _ _) hm (Nat.le_refl _) (by omega) hEl
    have hx := hmem.out x (by simp)
    obtain ⟨n, hn⟩ : ∃ n, nd x = n := ⟨_, rfl⟩
    have b2 := hT.b2 x
    have b1 := hT.b1 x
    simp only [hn] at b1 b2
    have hck : k + rest.length + 1 ≤ 1000 := hk1
    obtain ⟨q, hq⟩ : ∃ q, n.un + d = q := ⟨_, rfl⟩
    have hqw : IntKind.i64.wrap q = q := by rw [IntKind.wrap_i64]; omega
    have l0 := hT.look1 hx.2
    simp only [hn] at l0
    have c0 := hT.c0
    simp only at c0
    obtain ⟨o0, o1⟩ := hKeep.out U2 hm2
    obtain ⟨V, hV⟩ : ∃ V, U2.alloc (.cells #[.bool n.f, .int .i64 n.ins, .bool n.m, .string n.wh, .int .i64 q] 61) = V := ⟨_, rfl⟩
    have bV : Below U2.heap.size U2 V.drew := by rw [← hV]; exact ((Below.refl _ _).alloc (Nat.le_refl _) _).drew
    have hTd := hT.below bV
    obtain ⟨W2, hrun2, g2⟩ := hTd.put hx.2 { n with un := q } S.p.ks (fun y => ⟨.inr, fun e => e.elim (fun e => by rw [e]; exact hx.1) id⟩) (by show S.c + k ≤ 1000000; omega) (by show -((S.c + k : Nat) + 1 : Int) ≤ n.ins ∧ n.ins ≤ ((S.c + k : Nat) : Int) + 1; omega) (by show -((S.c + k : Nat) + 1 : Int) ≤ q ∧ q ≤ ((S.c + k : Nat) : Int) + 1; omega)
    simp only at hrun2 g2
    have hbx : S.bh < U2.heap.size := hT.lt (.inr (.inl rfl))
    have hbx2 : S.bs < U2.heap.size := hT.lt (.inr (.inr (.inl rfl)))
    have oU : w.heap.size < U2.heap.size := by have := hm2.size; have := hsw.out; omega
    have v0 : V.cell? ⟨U2.heap.size, 0, none⟩ = some (.bool n.f) := by rw [← hV]; exact cell_at rfl rfl
    have v1 : V.cell? ⟨U2.heap.size, 1, none⟩ = some (.int .i64 n.ins) := by rw [← hV]; exact cell_at rfl rfl
    have v2 : V.cell? ⟨U2.heap.size, 2, none⟩ = some (.bool n.m) := by rw [← hV]; exact cell_at rfl rfl
    have v3 : V.cell? ⟨U2.heap.size, 3, none⟩ = some (.string n.wh) := by rw [← hV]; exact cell_at rfl rfl
    have v4 : V.cell? ⟨U2.heap.size, 4, none⟩ = some (.int .i64 q) := by rw [← hV]; exact cell_at rfl rfl
    have e0 : V.cell? ⟨w.heap.size, 0, none⟩ = some (.pointer (some ⟨S.bt, 0, none⟩)) := (bV.cell (p := ⟨w.heap.size, 0, none⟩) oU).trans o0
    have e1 : V.cell? ⟨S.bt, 0, none⟩ = some (.map (some S.bh)) := hTd.c0
    have nH : ∀ {y : Nat}, y ≠ S.bh → y ≠ S.bs → ¬ own S y := fun {y} h1 h2 e => by rcases e with e | e; exact h1 e; exact h2 e
    have hth : S.bt ≠ S.bh := hT.th
    have hts : S.bt ≠ S.bs := hT.tss
    have hwb := hz.out
    have S2 : W2.cell? ⟨w.heap.size, 0, none⟩ = some (.pointer (some ⟨S.bt, 0, none⟩)) ∧ W2.cell? ⟨S.bt, 0, none⟩ = some (.map (some S.bh)) ∧ W2.cell? ⟨U2.heap.size, 0, none⟩ = some (.bool n.f) ∧ W2.cell? ⟨U2.heap.size, 1, none⟩ = some (.int .i64 n.ins) ∧ W2.cell? ⟨U2.heap.size, 2, none⟩ = some (.bool n.m) ∧ W2.cell? ⟨U2.heap.size, 3, none⟩ = some (.string n.wh) ∧ W2.cell? ⟨U2.heap.size, 4, none⟩ = some (.int .i64 q) :=
      ⟨g2.m.cell (a := ⟨w.heap.size, 0, none⟩) (nH (y := w.heap.size) (by omega) (by omega)) e0, g2.m.cell (a := ⟨S.bt, 0, none⟩) (nH (y := S.bt) hth hts) e1, g2.m.cell (a := ⟨U2.heap.size, 0, none⟩) (nH (y := U2.heap.size) (by omega) (by omega)) v0, g2.m.cell (a := ⟨U2.heap.size, 1, none⟩) (nH (y := U2.heap.size) (by omega) (by omega)) v1, g2.m.cell (a := ⟨U2.heap.size, 2, none⟩) (nH (y := U2.heap.size) (by omega) (by omega)) v2, g2.m.cell (a := ⟨U2.heap.size, 3, none⟩) (nH (y := U2.heap.size) (by omega) (by omega)) v3, g2.m.cell (a := ⟨U2.heap.size, 4, none⟩) (nH (y := U2.heap.size) (by omega) (by omega)) v4⟩
    have S2H := hidP S2
    have hfin : Hid (Mv E2 U2 W2 ∧ CJ S d (bumpU d (abv s) S.p.nd) rest E2 W2) := by
      refine ⟨(Mv.below bV).trans' (g2.m.mono (fun y _ e => (hE2 y).2 e)), hE2, up nd x { n with un := q }, k + 1, by omega, ?_, ?_, fun y hy => hmem.out y (by simp [hy])⟩
      · show bumpU d rest (up nd x { n with un := q }) = _
        rw [← hk2.out]
        show _ = bumpU d rest (up nd x { nd x with un := (nd x).un + d })
        rw [hn, hq]
      · exact g2.g
    have o2 : (U2.alloc (.cells #[.bool n.f, .int .i64 n.ins, .bool n.m, .string n.wh, .int .i64 n.un] 61)).cell? ⟨w.heap.size + 1, 0, none⟩ = some (.int .i64 d) := (World.cell?_alloc_lt _ _ _ (by show w.heap.size + 1 < _; have := hm2.size; have := hsw.out; omega)).trans o1
    unfold ndV at l0 hrun2
    clear tw hi hm hrec hgr hEl hk1 hk2 hT hmem hm2 hrow h0I tI hTd g2 bV hx hn S2 b1 b2 hck hbx hbx2 oU hth hts hwb hE2
    gi_wp2_with (first | rw [hq] | rw [hV])
    refine region_round (S := fun W => W.cell? ⟨w.heap.size, 0, none⟩ = some (.pointer (some ⟨S.bt, 0, none⟩)) ∧ W.cell? ⟨S.bt, 0, none⟩ = some (.map (some S.bh)) ∧ W.cell? ⟨U2.heap.size, 0, none⟩ = some (.bool n.f) ∧ W.cell? ⟨U2.heap.size, 1, none⟩ = some (.int .i64 n.ins) ∧ W.cell? ⟨U2.heap.size, 2, none⟩ = some (.bool n.m) ∧ W.cell? ⟨U2.heap.size, 3, none⟩ = some (.string n.wh) ∧ W.cell? ⟨U2.heap.size, 4, none⟩ = some (.int .i64 q)) (by kernel_rfl) (by kernel_rfl) (by rintro ⟨_, _, h⟩; exact h) ⟨e0, e1, v0, v1, v2, v3, v4⟩ (fun hHeld => ?_)
    refine wpAnyH_take (i := 0) (oi := ⟨some 22, _, _, _, _, _⟩) (v := ?v0) rfl (by kernel_rfl) (by kernel_rfl) (by kernel_rfl) (fun _ _ _ h => h) (Or.inl ⟨by rfl, ?hy0⟩) (by assumption) ?_
    case hy0 => (intro w hSw; obtain ⟨z0, z1, y0, y1, y2, y3, y4⟩ := hSw; go_simp; try with_reducible rfl)
    simp only [Act.put, List.setIfInBounds_toArray, List.set_cons_zero, List.set_cons_succ]
    refine wpAnyH_take (i := 1) (oi := ⟨some 23, _, _, _, _, _⟩) (v := ?v1) rfl (by kernel_rfl) (by kernel_rfl) (by kernel_rfl) (fun _ _ _ h => h) (Or.inl ⟨by rfl, ?hy1⟩) (by assumption) ?_
    case hy1 => (intro w hSw; obtain ⟨z0, z1, y0, y1, y2, y3, y4⟩ := hSw; go_simp; try with_reducible rfl)
    simp only [Act.put, List.setIfInBounds_toArray, List.set_cons_zero, List.set_cons_succ]
    refine wpAnyH_take (i := 2) (oi := ⟨some 24, _, _, _, _, _⟩) (v := ?v2) rfl (by kernel_rfl) (by kernel_rfl) (by kernel_rfl) (fun _ _ _ h => h) (Or.inl ⟨by rfl, ?hy2⟩) (by assumption) ?_
    case hy2 => (intro w hSw; obtain ⟨z0, z1, y0, y1, y2, y3, y4⟩ := hSw; go_simp; try with_reducible rfl)
    simp only [Act.put, List.setIfInBounds_toArray, List.set_cons_zero, List.set_cons_succ]
    refine wpAnyH_take (i := 3) (oi := ⟨some 25, _, _, _, _, _⟩) (v := ?v3) rfl (by kernel_rfl) (by kernel_rfl) (by kernel_rfl) (fun _ _ _ h => h) (Or.inl ⟨by rfl, ?hy3⟩) (by assumption) ?_
    case hy3 => (intro w hSw; obtain ⟨z0, z1, y0, y1, y2, y3, y4⟩ := hSw; go_simp; try with_reducible rfl)
    simp only [Act.put, List.setIfInBounds_toArray, List.set_cons_zero, List.set_cons_succ]
    refine wpAnyH_take (i := 4) (oi := ⟨some 26, _, _, _, _, _⟩) (v := ?v4) rfl (by kernel_rfl) (by kernel_rfl) (by kernel_rfl) (fun _ _ _ h => h) (Or.inl ⟨by rfl, ?hy4⟩) (by assumption) ?_
    case hy4 => (intro w hSw; obtain ⟨z0, z1, y0, y1, y2, y3, y4⟩ := hSw; go_simp; try with_reducible rfl)
    simp only [Act.put, List.setIfInBounds_toArray, List.set_cons_zero, List.set_cons_succ]
    refine wpAnyH_take (i := 5) (oi := ⟨some 27, _, _, _, _, _⟩) (v := .agg #[.bool n.f, .int .i64 n.ins, .bool n.m, .string n.wh, .int .i64 q]) rfl (by kernel_rfl) (by kernel_rfl) (by kernel_rfl) (fun _ _ _ h => h) (Or.inl ⟨by rfl, ?hy5⟩) (by assumption) ?_
    case hy5 => (intro w hSw; obtain ⟨z0, z1, y0, y1, y2, y3, y4⟩ := hSw; go_simp; try with_reducible rfl)
    simp only [Act.put, List.setIfInBounds_toArray, List.set_cons_zero, List.set_cons_succ]
    refine wpAnyH_ready (rs := [6]) (by kernel_rfl) (by simp) ?_
    refine AllReadyH.cons (o := ⟨none, _, _, _, _, _⟩) rfl (fun K hK => ?_) AllReadyH.nil
    go_simp
    refine hK.out _ _ S2H.out (fun _ => ?_)
    clear hK K
    try simp only [Act.put, List.setIfInBounds_toArray, List.set_cons_zero, List.set_cons_succ]
    refine wpAnyH_done (by kernel_rfl) ?_ _
    gi_wp2_with fail
    exact ⟨hfin.out.1, E2, Gr.refl _ _, hfin.out.2⟩
  case done =>
    rintro D E2 U hD hK hnD hm hgr ⟨hE2, nd, k, hk1, hk2, hT, hmem⟩
    have hnd : nd = bumpU d (abv s) S.p.nd := hk2.out
    have mP : Mv (fun k => k = D) U (U.putObj D (.deferred none)) := Mv.put (E := fun k => k = D) rfl _
    have hDb : ∀ j, hasB S j → j ≠ D := fun j hj e => by
      obtain ⟨h1, h2, h3, h4⟩ := hz.out
      have := hsw.out
      rcases hj with q | q | q | q <;> omega
    have hfin : Hid (Goes S w { S.p with nd := bumpU d (abv s) S.p.nd } 1000 (U.putObj D (.deferred none))) := by
      have g : Goes S w { S.p with nd := bumpU d (abv s) S.p.nd } k (U.putObj D (.deferred none)) := ⟨by rw [← hnd]; exact hT.mv mP (fun j hj => hDb j hj), (hfinM.out U hm).put_new (l := D) (by have := hsw.out; omega) _⟩
      exact g.mono (by simp at hk1; omega)
    have hKH := hidP hK
    clear hE2 hk1 hk2 hT hmem hm hgr hnD mP hDb
    gi_wp2_with fail
    refine ⟨by simp, .inl ⟨_, _, rfl, run_takeDeferred hKH.out, ?_⟩⟩
    exact ⟨.tuple #[], by simp [results, Tryd.results38, go_sem], rfl, hfin.out⟩
end Go.Proofs.YtnniahlacfflmaaDoor
