/- The contract of (*Graph).count. -/
import Derived.Test.YtcfclknfnadgcaaDoorGC1
import Derived.Test.YtcfclknfnadgcaaDoorRR
namespace Go.Proofs.YtcfclknfnadgcaaDoor
open Go.RowKit Go.Shelf Go.Lib
attribute [local go_sem] Oper.semAt_some
set_option maxRecDepth 100000 in
set_option maxHeartbeats 1000000 in
theorem told_any (vs : Array Value) (w : World) : Calls Tryd.prog 32 #[.agg vs] w fun e w' => e = .returned (.func (.func 43) #[] #[.pointer (some ⟨w.heap.size, 0, none⟩)]) ∧ w' = w.alloc (.cells vs 29) := by
  go_enter Tryd.func32, Tryd.ntmps32
  go_wp2_with fail
  go_ret
  exact ⟨rfl, rfl⟩
/-- Where a graph's count stands: the edges of rest are still to be told of. -/
structure Ct (S : GS) (d : Int) (Kf : Ed → Int) (B cf : Nat) (rest : List Ed) (E : Nat → Prop) (W : World) : Prop where
  st : ∃ S' Kc, Gd W S' Kc ∧ addL Kc rest d = Kf ∧ (∀ k, E k ↔ hasEd S' k) ∧ (S'.gb = S.gb ∧ S'.ub = S.ub ∧ S'.eb1 = S.eb1 ∧ S'.eb2 = S.eb2) ∧ S'.c + 2 * rest.length ≤ cf ∧ (d = 1 ∨ (d = -1 ∧ ∀ f, (cn f rest : Int) ≤ Kc f))
  ok : ∀ e ∈ rest, okE e
  b0 : W.cell? ⟨B, 0, none⟩ = some (.pointer (some ⟨S.gb, 0, none⟩))
  b2 : W.cell? ⟨B + 2, 0, none⟩ = some (.int .i64 d)
  n0 : ¬ E B
  n2 : ¬ E (B + 2)
theorem Ct.ter {S : GS} {d : Int} {Kf : Ed → Int} {B cf N : Nat} (hB : B + 2 < N) (hgb : S.gb < N) : Ter N (Ct S d Kf B cf) := by
  refine ⟨fun s E W V h m => ?_, fun s E W h k hk => ?_⟩
  · obtain ⟨S', Kc, h1, h2, h3, h4, h5⟩ := h.st
    have hg : ¬ (¬ E S'.gb ∧ N ≤ S'.gb) := fun q => by rw [h4.1] at q; omega
    refine ⟨⟨S', Kc, h1.mv m (fun k hk q => q.1 ((h3 k).2 hk)) hg, h2, h3, h4, h5⟩, h.ok, m.cell (a := ⟨B, 0, none⟩) (fun q => by have := q.2; change N ≤ B at this; omega) h.b0, m.cell (a := ⟨B + 2, 0, none⟩) (fun q => by have := q.2; change N ≤ B + 2 at this; omega) h.b2, h.n0, h.n2⟩
  · obtain ⟨S', Kc, h1, h2, h3, h4, h5⟩ := h.st
    exact h1.lt ((h3 k).1 hk)
set_option maxRecDepth 100000 in
set_option maxHeartbeats 8000000 in
theorem gcount_any (S : GS) (K : Ed → Int) (vs : Array Value) (u : Un) (w : World) (h : Gd w S K) (hu : UV w vs u) (d : Int) (hd : d = 1 ∨ (d = -1 ∧ ∀ f, (cn f (tolU u) : Int) ≤ K f)) (hn : u.nm.size ≤ 1000) (hc : S.c + 2 * (tolU u).length ≤ 800000) (hsz : ∀ r ∈ relsU u, ∀ s ∈ r.2.2, s.size ≤ 2000000) (hgl : GlN w)
    (e0 : ¬ hasEd S 0) (e1 : ¬ hasEd S 1) (eu : ∀ b, ubk vs b → ¬ hasEd S b) :
    Calls Tryd.prog 21 #[.pointer (some ⟨S.gb, 0, none⟩), .agg vs, .int .i64 d] w fun e w' => e = .returned (.tuple #[]) ∧ ∃ S', Gd w' S' (addL K (tolU u) d) ∧ GdGo S w S' w' (2 * (tolU u).length) := by
  obtain ⟨cf, hcf⟩ : ∃ cf, S.c + 2 * (tolU u).length = cf := ⟨_, rfl⟩
  rw [hcf] at hc
  obtain ⟨gb, hgb⟩ : ∃ gb, S.gb = gb := ⟨_, rfl⟩
  obtain ⟨B, hB⟩ : ∃ B, w.heap.size = B := ⟨_, rfl⟩
  obtain ⟨W0, hW0⟩ : ∃ W0, ((w.alloc (.cells #[.pointer (some ⟨gb, 0, none⟩)] 25)).alloc (.cells vs 29)).alloc (.cells #[.int .i64 d] 3) = W0 := ⟨_, rfl⟩
  have b0 : Below w.heap.size w W0 := by rw [← hW0]; exact (((Below.refl _ _).alloc (Nat.le_refl _) _).alloc (by simp) _).alloc (by simp; omega) _
  have s0 : W0.heap.size = B + 3 := by rw [← hW0]; simp [hB]
  have c0 : W0.cell? ⟨B, 0, none⟩ = some (.pointer (some ⟨gb, 0, none⟩)) := by
    rw [← hW0, World.cell?_alloc_lt _ _ _ (by simp; omega), World.cell?_alloc_lt _ _ _ (by simp; omega)]
    exact cell_at hB rfl
  have c2 : W0.cell? ⟨B + 2, 0, none⟩ = some (.int .i64 d) := by rw [← hW0]; exact cell_at (by simp; omega) rfl
  have U0 : Ub (B + 1) vs W0 := by
    intro p v hp
    rw [← hW0, World.cell?_alloc_lt _ _ _ (by simp; omega)]
    exact cell_at (by simp; omega) hp
  have hld := U0.load hu.sz
  have htd := told_any vs W0
  obtain ⟨W1, hW1⟩ : ∃ W1, W0.alloc (.cells vs 29) = W1 := ⟨_, rfl⟩
  rw [hW1, s0] at htd
  have b1 : Below W0.heap.size W0 W1 := by rw [← hW1]; exact (Below.refl _ _).alloc (Nat.le_refl _) _
  have s1 : W1.heap.size = B + 4 := by rw [← hW1]; simp [s0]
  have U1 : Ub (B + 3) vs W1 := by rw [← hW1, ← s0]; exact Ub.mk' _ _ _
  have b01 : Below w.heap.size w W1 := b0.trans (b1.mono (by omega))
  have hu1 := hu.below b01
  have hg1 := h.mv (Mv.below (E := fun _ => False) b01) (fun _ _ q => q) (fun q => q)
  have hgl1 := hgl.below b01
  have lgb : gb < B := by rw [← hB, ← hgb]; exact cell_lt h.c1
  have hrow := told_row (B + 3) vs u (hasEd S) W1 (fun w hw => relations_any vs u w hw) hu1 U1 (fun q => by have := h.lt q; omega) eu hgl1 e0 e1 hsz
  have hct : Hid (Ct S d (addL K (tolU u) d) B cf (tolU u) (hasEd S) W1) :=
    ⟨⟨S, K, hg1, rfl, fun _ => Iff.rfl, ⟨rfl, rfl, rfl, rfl⟩, by omega, hd⟩, fun e he => tol_ok hn he, by rw [hgb]; exact (Mv.below (E := fun _ => False) b1).cell (fun h => h) c0, (Mv.below (E := fun _ => False) b1).cell (fun h => h) c2, fun q => by have := h.lt q; omega, fun q => by have := h.lt q; omega⟩
  have hlowS := hidP (fun k (hk : hasEd S k) => h.lt hk)
  have hbH := hidP b01
  have hNH : Hid (tolU u = tolU u) := rfl
  obtain ⟨eb1, heb1⟩ : ∃ x, S.eb1 = x := ⟨_, rfl⟩
  obtain ⟨eb2, heb2⟩ : ∃ x, S.eb2 = x := ⟨_, rfl⟩
  obtain ⟨Kf, hKf⟩ : ∃ x, addL K (tolU u) d = x := ⟨_, rfl⟩
  rw [hKf] at hct ⊢
  have hcfH := hidP hcf
  have hcf8 := hc
  clear h hu hd hn hc hcf hsz hgl e0 e1 eu b0 c0 c2 U0 b1 U1 b01 hu1 hg1 hgl1 hKf
  rw [hgb]
  refine (callsIn_wide (n := 5)).1 ?_
  refine callsIn_of_wp_marks Tryd.func21 rfl trivial ?_ rfl
  simp only [Tryd.ntmps21, List.size_toArray, List.length_cons, List.length_nil, Nat.reduceAdd, Nat.reduceSub, Array.replicate_succ, Array.replicate_zero, List.push_toArray, List.append_toArray, List.nil_append, List.cons_append]
  gi_wp2_with (first | rw [hW0] | refine wpListIn_loadU rfl _ rfl _ rfl _ hld ?_)
  refine ⟨trivial, (callsIn_wide.2 htd).mono ?_⟩
  rintro e w9 ⟨rfl, hw9⟩
  replace hw9 := hw9.symm
  subst hw9
  clear htd hld
  gi_wp2_with fail
  have tI : Ter W1.heap.size (Ct S d Kf B cf) := Ct.ter (by omega) (by omega)
  have tX : Ter W1.heap.size (fun (_ : Code) (_ : Nat → Prop) (_ : World) => False) := ⟨fun _ _ _ _ h _ => h, fun _ _ _ h => h.elim⟩
  refine loop_out (gf := 43) (lb := #[.pointer (some ⟨B + 3, 0, none⟩)]) rfl (enters_of Tryd.func43 (by kernel_rfl) rfl) hrow (fun _ => rfl) (Ct S d Kf B cf) (fun _ _ _ => False) tI tX hct.out ?round ?done ?stop
  case round =>
    intro l9 hl9 x rest E2 U hi hm hg hEl hrec
    have hlt : l9 < U.heap.size := by obtain ⟨r, hr⟩ := hrec; exact (Array.getElem?_eq_some_iff.1 hr).1
    obtain ⟨x0, x1, x2⟩ := x
    simp only [encE]
    gi_wp2_with fail
    refine ⟨⟨Mv.alloc _ _ _, Below.heap_alloc _ _ _ hlt⟩, fun U2 tw => ?_⟩
    obtain ⟨hi2, hm2⟩ := tw.go tI hi (Mv.alloc _ _ _) hm (Nat.le_refl _) hl9 hEl
    obtain ⟨eb, heb⟩ : ∃ eb, U.heap.size = eb := ⟨_, rfl⟩
    have y0 : U2.cell? ⟨eb, 0, none⟩ = some (.int .i64 x0) := tw.mv.cell (a := ⟨eb, 0, none⟩) (by show ¬ eb = l9; omega) (cell_at heb rfl)
    have y1 : U2.cell? ⟨eb, 1, none⟩ = some (.string x1) := tw.mv.cell (a := ⟨eb, 1, none⟩) (by show ¬ eb = l9; omega) (cell_at heb rfl)
    have y2 : U2.cell? ⟨eb, 2, none⟩ = some (.string x2) := tw.mv.cell (a := ⟨eb, 2, none⟩) (by show ¬ eb = l9; omega) (cell_at heb rfl)
    have nE : ¬ E2 eb := fun q => by have := tI.low _ _ _ hi eb q; omega
    obtain ⟨⟨T, Kc, g1, g2, g3, ⟨g4, g5, g6, g7⟩, g8, g9⟩, ok, bb0, bb2, n0, n2⟩ := hi2
    have okx := ok (x0, x1, x2) (List.mem_cons_self ..)
    have hTc : T.c + 2 * (rest.length + 1) ≤ cf := g8
    have hdx : d = 1 ∨ (d = -1 ∧ 1 ≤ Kc (x0, x1, x2)) := g9.imp id (fun q => ⟨q.1, by have := q.2 (x0, x1, x2); simp [cn] at this; omega⟩)
    have nT : ∀ k, hasEd T k → E2 k := fun k hk => (g3 k).2 hk
    have gd := g1.mv (Mv.drew (fun _ => False) U2) (fun _ _ q => q) (fun q => q)
    have hc1 := ecount_any gd.e1 x1 (x0, x1, x2) okx (d := d) (hdx.imp id (fun q => ⟨q.1, by have := fw_at Kc (x0, x1, x2); rw [show fw Kc x1 (x0, x1, x2) = Kc (x0, x1, x2) from this]; exact q.2⟩)) okx.2.1 (by omega)
    have hSa : U2.drew.cell? ⟨B, 0, none⟩ = some (.pointer (some ⟨gb, 0, none⟩)) ∧ U2.drew.cell? ⟨gb, 1, none⟩ = some (.map (some eb1)) ∧ U2.drew.cell? ⟨gb, 2, none⟩ = some (.map (some eb2)) ∧ U2.drew.cell? ⟨eb, 0, none⟩ = some (.int .i64 x0) ∧ U2.drew.cell? ⟨eb, 1, none⟩ = some (.string x1) ∧ U2.drew.cell? ⟨eb, 2, none⟩ = some (.string x2) ∧ U2.drew.cell? ⟨B + 2, 0, none⟩ = some (.int .i64 d) := by
      refine ⟨by rw [← hgb]; exact bb0, ?_, ?_, y0, y1, y2, bb2⟩
      · have := gd.c1; rw [g4, g6, hgb, heb1] at this; exact this
      · have := gd.c2; rw [g4, g7, hgb, heb2] at this; exact this
    have hkeep : ∀ V W, Mv (hasEd T) V W → (V.cell? ⟨B, 0, none⟩ = some (.pointer (some ⟨gb, 0, none⟩)) ∧ V.cell? ⟨gb, 1, none⟩ = some (.map (some eb1)) ∧ V.cell? ⟨gb, 2, none⟩ = some (.map (some eb2)) ∧ V.cell? ⟨eb, 0, none⟩ = some (.int .i64 x0) ∧ V.cell? ⟨eb, 1, none⟩ = some (.string x1) ∧ V.cell? ⟨eb, 2, none⟩ = some (.string x2) ∧ V.cell? ⟨B + 2, 0, none⟩ = some (.int .i64 d)) → (W.cell? ⟨B, 0, none⟩ = some (.pointer (some ⟨gb, 0, none⟩)) ∧ W.cell? ⟨gb, 1, none⟩ = some (.map (some eb1)) ∧ W.cell? ⟨gb, 2, none⟩ = some (.map (some eb2)) ∧ W.cell? ⟨eb, 0, none⟩ = some (.int .i64 x0) ∧ W.cell? ⟨eb, 1, none⟩ = some (.string x1) ∧ W.cell? ⟨eb, 2, none⟩ = some (.string x2) ∧ W.cell? ⟨B + 2, 0, none⟩ = some (.int .i64 d)) := by
      intro V W m ⟨a0, a1, a2, a3, a4, a5, a6⟩
      have ng : ¬ hasEd T gb := fun q => g1.ng (by rw [g4, hgb]; exact q)
      exact ⟨m.cell (a := ⟨B, 0, none⟩) (fun q => n0 (nT _ q)) a0, m.cell (a := ⟨gb, 1, none⟩) ng a1, m.cell (a := ⟨gb, 2, none⟩) ng a2, m.cell (a := ⟨eb, 0, none⟩) (fun q => nE (nT _ q)) a3, m.cell (a := ⟨eb, 1, none⟩) (fun q => nE (nT _ q)) a4, m.cell (a := ⟨eb, 2, none⟩) (fun q => nE (nT _ q)) a5, m.cell (a := ⟨B + 2, 0, none⟩) (fun q => n2 (nT _ q)) a6⟩
    have hkH := hidP hkeep
    have gdH := hidP gd
    have hall : Hid ((addL Kc ((x0, x1, x2) :: rest) d = Kf) ∧ (∀ k, E2 k ↔ hasEd T k) ∧ (T.gb = S.gb ∧ T.ub = S.ub ∧ T.eb1 = S.eb1 ∧ T.eb2 = S.eb2) ∧ T.c + 2 * (rest.length + 1) ≤ cf ∧ (d = 1 ∨ (d = -1 ∧ ∀ f, (cn f ((x0, x1, x2) :: rest) : Int) ≤ Kc f)) ∧ (∀ e ∈ rest, okE e) ∧ okE (x0, x1, x2) ∧ ¬ E2 B ∧ ¬ E2 (B + 2)) :=
      ⟨g2, g3, ⟨g4, g5, g6, g7⟩, hTc, g9, fun e he => ok e (List.mem_cons_of_mem _ he), okx, n0, n2⟩
    rw [g6, heb1] at hc1
    have hdxH := hidP hdx
    have mU : Hid (Mv (fun _ => False) U2 U2.drew) := Mv.drew _ _
    have e6 := g6.trans heb1
    have e7 := g7.trans heb2
    have hsU : Hid (∀ k, hasEd T k → k < U2.heap.size) := fun k hk => g1.lt hk
    clear hi hm hm2 tw hrec g1 g2 g3 g4 g5 g6 g7 g8 g9 ok bb0 bb2 n0 n2 okx hTc hdx nT gd y0 y1 y2 nE hkeep hlt hg
    unfold edV at hc1
    gi_wp2_with fail
    refine region_round (S := (fun y => (y.cell? ⟨B, 0, none⟩ = some (.pointer (some ⟨gb, 0, none⟩)) ∧ y.cell? ⟨gb, 1, none⟩ = some (.map (some eb1)) ∧ y.cell? ⟨gb, 2, none⟩ = some (.map (some eb2)) ∧ y.cell? ⟨eb, 0, none⟩ = some (.int .i64 x0) ∧ y.cell? ⟨eb, 1, none⟩ = some (.string x1) ∧ y.cell? ⟨eb, 2, none⟩ = some (.string x2) ∧ y.cell? ⟨B + 2, 0, none⟩ = some (.int .i64 d)))) (by kernel_rfl) (by kernel_rfl) (by rintro ⟨_, _, h⟩; exact h) ?_ (fun hHeld => ?_)
    · exact hSa
    refine wpAnyH_take (i := 0) (oi := ⟨some 10, _, _, _, _, _⟩) (v := ?v10) rfl (by kernel_rfl) (by kernel_rfl) (by kernel_rfl) (fun _ _ _ h => h) (Or.inl ⟨by rfl, ?hy10⟩) (by assumption) ?_
    case hy10 => (intro w hSw; (try dsimp only at hSw); go_simp; try with_reducible rfl)
    simp only [Act.put, List.setIfInBounds_toArray, List.set_cons_zero, List.set_cons_succ]
    refine wpAnyH_take (i := 1) (oi := ⟨some 11, _, _, _, _, _⟩) (v := ?v11) rfl (by kernel_rfl) (by kernel_rfl) (by kernel_rfl) (fun _ _ _ h => h) (Or.inl ⟨by rfl, ?hy11⟩) (by assumption) ?_
    case hy11 => (intro w hSw; (try dsimp only at hSw); go_simp; try with_reducible rfl)
    simp only [Act.put, List.setIfInBounds_toArray, List.set_cons_zero, List.set_cons_succ]
    refine wpAnyH_take (i := 2) (oi := ⟨some 12, _, _, _, _, _⟩) (v := ?v12) rfl (by kernel_rfl) (by kernel_rfl) (by kernel_rfl) (fun _ _ _ h => h) (Or.inl ⟨by rfl, ?hy12⟩) (by assumption) ?_
    case hy12 => (intro w hSw; (try dsimp only at hSw); go_simp; try with_reducible rfl)
    simp only [Act.put, List.setIfInBounds_toArray, List.set_cons_zero, List.set_cons_succ]
    refine wpAnyH_take (i := 3) (oi := ⟨some 13, _, _, _, _, _⟩) (v := ?v13) rfl (by kernel_rfl) (by kernel_rfl) (by kernel_rfl) (fun _ _ _ h => h) (Or.inl ⟨by rfl, ?hy13⟩) (by assumption) ?_
    case hy13 => (intro w hSw; (try dsimp only at hSw); go_simp; try with_reducible rfl)
    simp only [Act.put, List.setIfInBounds_toArray, List.set_cons_zero, List.set_cons_succ]
    refine wpAnyH_take (i := 4) (oi := ⟨some 14, _, _, _, _, _⟩) (v := ?v14) rfl (by kernel_rfl) (by kernel_rfl) (by kernel_rfl) (fun _ _ _ h => h) (Or.inl ⟨by rfl, ?hy14⟩) (by assumption) ?_
    case hy14 => (intro w hSw; (try dsimp only at hSw); go_simp; try with_reducible rfl)
    simp only [Act.put, List.setIfInBounds_toArray, List.set_cons_zero, List.set_cons_succ]
    refine wpAnyH_take (i := 5) (oi := ⟨some 15, _, _, _, _, _⟩) (v := ?v15) rfl (by kernel_rfl) (by kernel_rfl) (by kernel_rfl) (fun _ _ _ h => h) (Or.inl ⟨by rfl, ?hy15⟩) (by assumption) ?_
    case hy15 => (intro w hSw; (try dsimp only at hSw); go_simp; try with_reducible rfl)
    simp only [Act.put, List.setIfInBounds_toArray, List.set_cons_zero, List.set_cons_succ]
    refine wpAnyH_take (i := 6) (oi := ⟨some 16, _, _, _, _, _⟩) (v := ?v16) rfl (by kernel_rfl) (by kernel_rfl) (by kernel_rfl) (fun _ _ _ h => h) (Or.inl ⟨by rfl, ?hy16⟩) (by assumption) ?_
    case hy16 => (intro w hSw; (try dsimp only at hSw); go_simp; try with_reducible rfl)
    simp only [Act.put, List.setIfInBounds_toArray, List.set_cons_zero, List.set_cons_succ]
    refine wpAnyH_take (i := 7) (oi := ⟨some 17, _, _, _, _, _⟩) (v := ?v17) rfl (by kernel_rfl) (by kernel_rfl) (by kernel_rfl) (fun _ _ _ h => h) (Or.inl ⟨by rfl, ?hy17⟩) (by assumption) ?_
    case hy17 => (intro w hSw; (try dsimp only at hSw); go_simp; try with_reducible rfl)
    simp only [Act.put, List.setIfInBounds_toArray, List.set_cons_zero, List.set_cons_succ]
    refine wpAnyH_ready (rs := [8]) (by kernel_rfl) (by simp) ?_
    refine AllReadyH.cons (o := ⟨some 18, _, _, _, _, _⟩) rfl (fun K hK => ?_) AllReadyH.nil
    go_simp
    refine hc1.mono ?_
    rintro e w1 ⟨rfl, f1', hE1, hG1⟩
    have hSw := hkH.out _ _ (hG1.mv.mono (fun k _ q => .inl (by rw [e6]; exact q))) hSa
    have hS1 := hidP hSw
    have hSz := hidP hSa
    replace hE1 := hidP hE1
    replace hG1 := hidP hG1
    clear hc1 hSa
    refine hK.out _ _ hSw (fun _ => ?_)
    clear hSw
    clear hK K hHeld
    refine wpAnyH_done (by kernel_rfl) ?_ _
    gi_wp2_with fail

    have hSb := hS1.out
    have gd2 := gdH.out
    have hc2 : Calls Tryd.prog 33 #[.map (some eb2), .string x2, .agg #[.int .i64 x0, .string x1, .string x2], .int .i64 d] w1.drew fun r w' => r = .returned (.tuple #[]) ∧ ∃ fb', En w' eb2 fb' (updC (bw Kc) x2 (x0, x1, x2) d) (T.c + 1 + 1) ∧ EnGo w1.drew eb2 T.f2 w' fb' := by
      have k1 := (gd2.fst (f1' := f1') (by rw [e6]; exact hG1.out)).2.2.1
      rw [e7] at k1
      exact ecount_any (k1.mv (Mv.drew (fun _ => False) w1) (fun _ _ q => q)) x2 (x0, x1, x2) hall.out.2.2.2.2.2.2.1 (d := d) (hdxH.out.imp id (fun q => ⟨q.1, by have := bw_at Kc (x0, x1, x2); rw [show bw Kc x2 (x0, x1, x2) = Kc (x0, x1, x2) from this]; exact q.2⟩)) hall.out.2.2.2.2.2.2.1.2.2 (by have := hall.out.2.2.2.1; omega)
    clear gd2
    refine region_round (S := (fun y => (y.cell? ⟨B, 0, none⟩ = some (.pointer (some ⟨gb, 0, none⟩)) ∧ y.cell? ⟨gb, 1, none⟩ = some (.map (some eb1)) ∧ y.cell? ⟨gb, 2, none⟩ = some (.map (some eb2)) ∧ y.cell? ⟨eb, 0, none⟩ = some (.int .i64 x0) ∧ y.cell? ⟨eb, 1, none⟩ = some (.string x1) ∧ y.cell? ⟨eb, 2, none⟩ = some (.string x2) ∧ y.cell? ⟨B + 2, 0, none⟩ = some (.int .i64 d)))) (by kernel_rfl) (by kernel_rfl) (by rintro ⟨_, _, h⟩; exact h) ?_ (fun hHeld => ?_)
    · exact hSb
    refine wpAnyH_take (i := 0) (oi := ⟨some 19, _, _, _, _, _⟩) (v := ?v20) rfl (by kernel_rfl) (by kernel_rfl) (by kernel_rfl) (fun _ _ _ h => h) (Or.inl ⟨by rfl, ?hy20⟩) (by assumption) ?_
    case hy20 => (intro w hSw; (try dsimp only at hSw); go_simp; try with_reducible rfl)
    simp only [Act.put, List.setIfInBounds_toArray, List.set_cons_zero, List.set_cons_succ]
    refine wpAnyH_take (i := 1) (oi := ⟨some 20, _, _, _, _, _⟩) (v := ?v21) rfl (by kernel_rfl) (by kernel_rfl) (by kernel_rfl) (fun _ _ _ h => h) (Or.inl ⟨by rfl, ?hy21⟩) (by assumption) ?_
    case hy21 => (intro w hSw; (try dsimp only at hSw); go_simp; try with_reducible rfl)
    simp only [Act.put, List.setIfInBounds_toArray, List.set_cons_zero, List.set_cons_succ]
    refine wpAnyH_take (i := 2) (oi := ⟨some 21, _, _, _, _, _⟩) (v := ?v22) rfl (by kernel_rfl) (by kernel_rfl) (by kernel_rfl) (fun _ _ _ h => h) (Or.inl ⟨by rfl, ?hy22⟩) (by assumption) ?_
    case hy22 => (intro w hSw; (try dsimp only at hSw); go_simp; try with_reducible rfl)
    simp only [Act.put, List.setIfInBounds_toArray, List.set_cons_zero, List.set_cons_succ]
    refine wpAnyH_take (i := 3) (oi := ⟨some 22, _, _, _, _, _⟩) (v := ?v23) rfl (by kernel_rfl) (by kernel_rfl) (by kernel_rfl) (fun _ _ _ h => h) (Or.inl ⟨by rfl, ?hy23⟩) (by assumption) ?_
    case hy23 => (intro w hSw; (try dsimp only at hSw); go_simp; try with_reducible rfl)
    simp only [Act.put, List.setIfInBounds_toArray, List.set_cons_zero, List.set_cons_succ]
    refine wpAnyH_take (i := 4) (oi := ⟨some 23, _, _, _, _, _⟩) (v := ?v24) rfl (by kernel_rfl) (by kernel_rfl) (by kernel_rfl) (fun _ _ _ h => h) (Or.inl ⟨by rfl, ?hy24⟩) (by assumption) ?_
    case hy24 => (intro w hSw; (try dsimp only at hSw); go_simp; try with_reducible rfl)
    simp only [Act.put, List.setIfInBounds_toArray, List.set_cons_zero, List.set_cons_succ]
    refine wpAnyH_take (i := 5) (oi := ⟨some 24, _, _, _, _, _⟩) (v := ?v25) rfl (by kernel_rfl) (by kernel_rfl) (by kernel_rfl) (fun _ _ _ h => h) (Or.inl ⟨by rfl, ?hy25⟩) (by assumption) ?_
    case hy25 => (intro w hSw; (try dsimp only at hSw); go_simp; try with_reducible rfl)
    simp only [Act.put, List.setIfInBounds_toArray, List.set_cons_zero, List.set_cons_succ]
    refine wpAnyH_take (i := 6) (oi := ⟨some 25, _, _, _, _, _⟩) (v := ?v26) rfl (by kernel_rfl) (by kernel_rfl) (by kernel_rfl) (fun _ _ _ h => h) (Or.inl ⟨by rfl, ?hy26⟩) (by assumption) ?_
    case hy26 => (intro w hSw; (try dsimp only at hSw); go_simp; try with_reducible rfl)
    simp only [Act.put, List.setIfInBounds_toArray, List.set_cons_zero, List.set_cons_succ]
    refine wpAnyH_take (i := 7) (oi := ⟨some 26, _, _, _, _, _⟩) (v := ?v27) rfl (by kernel_rfl) (by kernel_rfl) (by kernel_rfl) (fun _ _ _ h => h) (Or.inl ⟨by rfl, ?hy27⟩) (by assumption) ?_
    case hy27 => (intro w hSw; (try dsimp only at hSw); go_simp; try with_reducible rfl)
    simp only [Act.put, List.setIfInBounds_toArray, List.set_cons_zero, List.set_cons_succ]
    refine wpAnyH_ready (rs := [8]) (by kernel_rfl) (by simp) ?_
    refine AllReadyH.cons (o := ⟨some 27, _, _, _, _, _⟩) rfl (fun K hK => ?_) AllReadyH.nil
    go_simp
    refine hc2.mono ?_
    rintro e w2 ⟨rfl, f2', hE2, hG2⟩
    have hSw := hkH.out _ _ (hG2.mv.mono (fun k _ q => .inr (by rw [e7]; exact q))) (hSb : w1.drew.cell? ⟨B, 0, none⟩ = some (.pointer (some ⟨gb, 0, none⟩)) ∧ _)
    have hS2 := hidP hSw
    replace hE2 := hidP hE2
    replace hG2 := hidP hG2
    clear hc2 hSb
    refine hK.out _ _ hSw (fun _ => ?_)
    clear hSw
    clear hK K hHeld
    refine wpAnyH_done (by kernel_rfl) ?_ _
    gi_wp2_with fail

    have hend := hall.out
    obtain ⟨g2, g3, ⟨g4, g5, g6, g7⟩, g8, g9, ok, okx, n0, n2⟩ := hend
    have h1' : En w1 T.eb1 f1' (updC (fw Kc) x1 (x0, x1, x2) d) (T.c + 1) := by rw [e6]; exact hE1.out
    have G1' : EnGo U2.drew T.eb1 T.f1 w1 f1' := by rw [e6]; exact hG1.out
    have h2' : En w2 T.eb2 f2' (updC (bw Kc) x2 (x0, x1, x2) d) (T.c + 2) := by rw [e7]; exact hE2.out
    have G2' : EnGo w1 T.eb2 T.f2 w2 f2' := by rw [e7]; exact ⟨(Mv.drew _ _).trans' hG2.out.mv, hG2.out.gr⟩
    obtain ⟨T', q1, q2⟩ := gdH.out.snd (e := (x0, x1, x2)) h1' G1' h2' G2'
    have qm : Mv E2 U2 w2 := (mU.out.mono (fun _ _ q => q.elim)).trans' (q2.mv.mono (fun k _ q => (g3 k).2 q))
    have qg : Gr E2 U2 (hasEd T') := fun k hk => (q2.gr k hk).imp (fun q => (g3 k).2 q) id
    refine ⟨qm, hasEd T', qg, ⟨T', updK Kc (x0, x1, x2) d, q1, (addL_cons Kc (x0, x1, x2) rest d).trans g2, fun _ => Iff.rfl, ⟨q2.gb.trans g4, q2.ub.trans g5, q2.eb1.trans g6, q2.eb2.trans g7⟩, by have := q2.c; omega, ?_⟩, ok, by rw [hgb]; exact hS2.out.1, hS2.out.2.2.2.2.2.2, fun q => ?_, fun q => ?_⟩
    · refine g9.imp id (fun q => ⟨q.1, fun f => ?_⟩)
      have := q.2 f
      unfold updK
      simp only [cn] at this
      split
      · next e => subst e; simp at this; omega
      · next e =>
        have e2 : ¬ (x0, x1, x2) = f := fun h => e h.symm
        simp [e2] at this
        exact this
    · rcases qg _ q with r | r
      · exact n0 r
      · have := cell_lt hSz.out.1; change U2.heap.size ≤ B at r; change B < U2.heap.size at this; omega
    · rcases qg _ q with r | r
      · exact n2 r
      · have := cell_lt hSz.out.2.2.2.2.2.2; change U2.heap.size ≤ B + 2 at r; change B + 2 < U2.heap.size at this; omega
  case done =>
    intro D E2 U hD hK hnD hm hg hi
    gi_wp2_with fail
    refine ⟨by simp, .inl ⟨_, _, rfl, run_takeDeferred hK, ?_⟩⟩
    obtain ⟨T, Kc, g1, g2, g3, ⟨g4, g5, g6, g7⟩, g8, g9⟩ := hi.st
    rw [addL_nil] at g2
    have mP : Mv (fun j => j = D) U (U.putObj D (.deferred none)) := Mv.put (E := fun j => j = D) rfl _
    refine ⟨_, results_none rfl _ _ _, rfl, T, ?_, g4, g5, g6, g7, ?_, fun k hk => ?_, ?_⟩
    · rw [← g2]
      exact g1.mv mP (fun k hk q => hnD (by rw [← q]; exact (g3 k).2 hk)) (by rw [g4, hgb]; omega)
    · exact ((Mv.below hbH.out).trans' hm).put_new (by omega) _
    · rcases hg k ((g3 k).2 hk) with r | r
      · exact .inl r
      · exact .inr (by omega)
    · have := hcfH.out; simp at g8; omega
  case stop =>
    intro D c E2 U hD hK hnD hm hg hi
    exact hi.elim
end Go.Proofs.YtcfclknfnadgcaaDoor
