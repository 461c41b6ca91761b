/- The law FileMerges holds. -/
import Derived.Test.YtiinhfbfciccnaaDoorL3aB
import Derived.Test.YtiinhfbfciccnaaDoorM9B
namespace Go.Proofs.YtiinhfbfciccnaaDoor
open Go.RowKit Go.Shelf
/-- Worlds in which the merged files lie as they were told. -/
structure MC (w3 : World) (bm br : Nat) (v1 v2 : Value) (M : List St) (y : World) : Prop where
  be : Below w3.heap.size w3 y
  c1 : y.cell? ⟨bm, 0, none⟩ = some v1
  c2 : y.cell? ⟨br, 0, none⟩ = some v2
  s1 : SlIs (fun _ => False) y v1 M
  s2 : SlIs (fun _ => False) y v2 M
theorem MC.next {w3 : World} {bm br : Nat} {v1 v2 : Value} {M : List St} {y z : World} (h : MC w3 bm br v1 v2 M y) (hb : Below y.heap.size y z) : MC w3 bm br v1 v2 M z :=
  ⟨h.be.trans (hb.mono h.be.size), (hb.cell (cell_lt h.c1)).trans h.c1, (hb.cell (cell_lt h.c2)).trans h.c2, h.s1.mv (Mv.below hb) (Gr.refl _ _), h.s2.mv (Mv.below hb) (Gr.refl _ _)⟩
theorem VBox.weakM {E E' : Nat → Prop} {W : World} {b1 b2 b3 : Nat} {v : Value} {sec key : ByteArray} {l : List St} (h : VBox E W b1 b2 b3 v sec key l) (hE : ∀ k, E' k → E k) : VBox E' W b1 b2 b3 v sec key l := by
  refine ⟨h.c1, fun e => h.e1 (hE _ e), h.c2, fun e => h.e2 (hE _ e), h.c3, fun e => h.e3 (hE _ e), ?_⟩
  obtain ⟨a, cap, hv, hs⟩ := h.sl
  exact ⟨a, cap, hv, fun h0 => by obtain ⟨g, o, h1, h2, h3⟩ := hs h0; exact ⟨g, o, h1, fun e => h2 (hE _ e), h3⟩⟩
theorem own_row1 {w : World} {base : Nat} {T : TypeId} {v : Value} {n : Nat} {xs : List Value} (h : w.ownsRow base T 1 v n xs) (hl : xs.length = n) :
    ∃ (a : Option Addr) (g cap : Nat), v = .slice a n cap ∧ (0 < n → a = some ⟨g, 0, none⟩) ∧ ∀ (j : Nat) (x : Value), xs[j]? = some x → w.cell? ⟨g, j, none⟩ = some x := by
  rcases h.2 with ⟨hv, h0⟩ | ⟨g, cap, cur, hv, _⟩
  · refine ⟨none, 0, 0, by rw [hv, h0], fun hp => by omega, fun j x hj => ?_⟩
    have := (List.getElem?_eq_some_iff.1 hj).1
    omega
  · refine ⟨some ⟨g, 0, none⟩, g, cap, hv, fun _ => rfl, fun j x hj => ?_⟩
    have hjl : j < n := by have := (List.getElem?_eq_some_iff.1 hj).1; omega
    subst hv
    exact (h.cellAt j (by omega)).trans hj
structure QB (W y : World) : Prop where
  b : Below W.heap.size W y
set_option maxRecDepth 100000 in
set_option maxHeartbeats 8000000 in
theorem merges_walk (a : Option Addr) (n c : Nat) (fs : List (Value × List St)) (sec key : ByteArray) (st : Int) (w : World) (hg : Mx w) (hfs : FsIs (fun _ => False) w (.slice a n c) fs) (hfl : fs.length ≤ 140737488355328) (hfL : ∀ p ∈ fs, p.2.length ≤ 140737488355328) (hfz : ∀ p ∈ fs, ∀ x ∈ p.2, x.s.size ≤ 140737488355328 ∧ x.k.size ≤ 140737488355328 ∧ x.v.size ≤ 140737488355328) (hs0 : -9223372036854775808 ≤ st) (hs1 : st ≤ 9223372036854775807) :
    Calls Tryd.prog 4 #[.slice a n c, .string sec, .string key, .int .i64 st] w fun e w' => e = .returned (.bool true) ∧ Below w.heap.size w w' := by
  obtain ⟨W1, hW1⟩ : ∃ W1, w.alloc (.cells #[.int .i64 st] 3) = W1 := ⟨_, rfl⟩
  have hb1 : Below w.heap.size w W1 := by rw [← hW1]; exact (Below.refl _ _).alloc (Nat.le_refl _) _
  have cs1 : W1.cell? ⟨w.heap.size, 0, none⟩ = some (.int .i64 st) := by rw [← hW1]; exact cell_at rfl rfl
  have hkn := known_any W1 (hg.below hb1)
  have hfsH := hidI6 hfs
  have hBnd := hidI6 (And.intro hfl (And.intro hfL hfz))
  have hM1H : Hid (∀ B pa pb ps st, M1P B pa pb ps st) := merges1_any
  clear hfs hfl hfL hfz
  go_enter Tryd.func4, Tryd.ntmps4
  go_wp2_with (rw [hW1])
  refine hkn.mono ?_
  rintro e w2 ⟨rfl, hb2⟩
  have hz2 := hb1.trans (hb2.mono hb1.size)
  have cs2 := (hb2.cell (p := ⟨w.heap.size, 0, none⟩) (cell_lt cs1)).trans cs1
  have hfs2 := hidI6 (hfsH.out.mv (Mv.below hz2) (Gr.refl _ _))
  have hsm := small_any a n c fs w2 hfs2.out hBnd.out.1 hBnd.out.2.1 hBnd.out.2.2
  clear hkn hW1 cs1 hb1 hb2
  go_wp2_with fail
  refine hsm.mono ?_
  rintro e w3 ⟨q, rfl, hq, hb3⟩
  have hz3 := hz2.trans (hb3.mono hz2.size)
  have cs3 := (hb3.cell (p := ⟨w.heap.size, 0, none⟩) (cell_lt cs2)).trans cs2
  clear hsm cs2
  cases q with
  | false =>
    go_wp2_with fail
    go_ret
    exact ⟨rfl, hz3⟩
  | true =>
    obtain ⟨h12, h200, hsmx⟩ := hq rfl
    have hfs3 := hidI6 (hfs2.out.mv (Mv.below hb3) (Gr.refl _ _))
    obtain ⟨M, hM⟩ : ∃ M, (flatF fs).foldl stepR [] = M := ⟨_, rfl⟩
    have hMl : M.length ≤ 200 := by rw [← hM]; have := foldR_len (flatF fs) []; simp only [List.length_nil] at this; omega
    have hMs : ∀ x ∈ M, sm x := by rw [← hM]; exact stepR_mem sm (flatF fs) [] hsmx (fun x hx => by simp at hx)
    obtain ⟨T, hT⟩ : ∃ T, (flatR (bk fs fs.length)).foldl stp ([], []) = T := ⟨_, rfl⟩
    have hTM : T.2.reverse = M := by rw [← hT, flatR_bk, merge_front, hM]
    have hTl : T.2.length = M.length := by rw [← hTM, List.length_reverse]
    have hmg := merge_any a n c fs w3 hfs3.out (by omega) (by rw [flatR_bk, List.length_reverse]; omega) (fun x hx => by
      rw [flatR_bk, List.mem_reverse] at hx
      have := hsmx x hx
      unfold sm at this
      omega) T hT
    rw [hTM, hTl] at hmg
    have hrg := fun (y : World) (hb : Below w3.heap.size w3 y) => rmerge_any a n c fs y (hfs3.out.mv (Mv.below hb) (Gr.refl _ _)) (by omega) (by omega)
    rw [hM] at hrg
    have hrgH := hidI6 hrg
    have hMlH := hidI6 hMl
    have hMsH := hidI6 hMs
    have hz3H := hidI6 hz3
    have cs3H := hidI6 cs3
    clear hq h12 h200 hsmx hM hT hTM hTl hrg hz3 cs3 hMs hfs2 hz2
    go_wp2_with fail
    refine hmg.mono ?_
    rintro e w4 ⟨v1, rfl, ho1, hb4⟩
    clear hmg
    go_wp2_with fail
    refine (hrgH.out w4 hb4).mono ?_
    rintro e w5 ⟨v2, rfl, ho2, hb5⟩
    obtain ⟨a1, n1, cc1, rfl⟩ := own_slice ho1
    obtain ⟨a2, n2, cc2, rfl⟩ := own_slice ho2
    obtain ⟨W6, hW6⟩ : ∃ W6, (w5.alloc (.cells #[.slice a1 n1 cc1] 25)).alloc (.cells #[.slice a2 n2 cc2] 25) = W6 := ⟨_, rfl⟩
    have hb56 : Below w5.heap.size w5 W6 := by rw [← hW6]; exact ((Below.refl _ _).alloc (Nat.le_refl _) _).alloc (by simp) _
    have hs56 : W6.heap.size = w5.heap.size + 2 := by rw [← hW6]; simp
    have q1 : W6.cell? ⟨w5.heap.size, 0, none⟩ = some (.slice a1 n1 cc1) := by rw [← hW6]; exact (((Below.refl _ _).alloc (Nat.le_refl _) _).cell (p := ⟨w5.heap.size, 0, none⟩) (by simp)).trans (cell_at rfl rfl)
    have q2 : W6.cell? ⟨w5.heap.size + 1, 0, none⟩ = some (.slice a2 n2 cc2) := by rw [← hW6]; exact cell_at (by simp) rfl
    have hb36 : Below w3.heap.size w3 W6 := (hb4.trans (hb5.mono hb4.size)).trans (hb56.mono (Nat.le_trans hb4.size hb5.size))
    have hMC : MC w3 w5.heap.size (w5.heap.size + 1) (.slice a1 n1 cc1) (.slice a2 n2 cc2) M W6 := ⟨hb36, q1, q2, ((own_sl _ (fun _ _ h => h) ho1).mv (Mv.below hb5) (Gr.refl _ _)).mv (Mv.below hb56) (Gr.refl _ _), (own_sl _ (fun _ _ h => h) ho2).mv (Mv.below hb56) (Gr.refl _ _)⟩
    have ho6 := hidI6 (own_mv ho2 (Mv.below (E := fun _ => False) hb56) (fun _ _ h => h))
    have hMCH := hidI6 hMC
    have hszs := hidI6 (And.intro hs56 (And.intro hb4.size hb5.size))
    clear hMC ho1 ho2 hb4 hb5 hb56 hb36 hrgH hs56
    go_upto_region 6 with (rw [hW6])
    clear hW6
    obtain ⟨S0, hS0⟩ : ∃ S0 : ByteArray, (⟨(prt (groups M)).toArray⟩ : ByteArray) = S0 := ⟨_, rfl⟩
    have hS0H := hidI6 hS0
    have hC0 : Hid (QB W6 { W6 with drawn := W6.drawn + 1 }) := QB.mk (Below.refl _ W6).drew
    have hQM : Hid (∀ y, QB W6 y → MC w3 w5.heap.size (w5.heap.size + 1) (.slice a1 n1 cc1) (.slice a2 n2 cc2) M y) := fun y h => hMCH.out.next h.b
    have hconst : ∀ p : Prop, (∀ w', QB W6 w' → p) = p := fun p => propext ⟨fun h => h _ hC0.out, fun h _ _ => h⟩
    clear hS0
    refine region_WQ (C := QB W6) (by kernel_rfl) (by kernel_rfl) hC0.out ?_
    refine WQ_step (fun K hK => ?_)
    simp only [SQ_eq]
    go_simp
    refine Exists.intro (Value.agg #[.slice a1 n1 cc1]) (And.intro (fun w' hw => (by have h := (hQM.out w' hw).c1; simp [h])) ?_)
    go_simp
    refine hK _ ?_
    clear hK K
    refine WQ_step (fun K hK => ?_)
    simp only [SQ_eq]
    go_simp
    refine Exists.intro (Value.agg #[.slice a2 n2 cc2]) (And.intro (fun w' hw => (by have h := (hQM.out w' hw).c2; simp [h])) ?_)
    go_simp
    refine hK _ ?_
    clear hK K
    refine WQ_step (fun K hK => ?_)
    simp only [SQ_eq]
    go_simp
    refine Exists.intro (Value.bool true) (And.intro (fun w' hw => (same_any _ _ M w' (hQM.out w' hw).s1 (hQM.out w' hw).s2 (by have := hMlH.out; omega)).mono (fun e z h => ⟨h.1, ⟨hw.b.trans (h.2.mono hw.b.size)⟩⟩)) ?_)
    go_simp
    refine hK _ ?_
    clear hK K
    iterate 2 (refine WQ_step (fun K hK => ?_); simp only [SQ_eq]; go_simp; refine hK _ ?_; clear hK K)
    refine WQ_step (fun K hK => ?_)
    simp only [SQ_eq]
    go_simp
    refine Exists.intro (Value.agg #[.slice a2 n2 cc2]) (And.intro (fun w' hw => (by have h := (hQM.out w' hw).c2; simp [h])) ?_)
    go_simp
    refine hK _ ?_
    clear hK K
    refine WQ_step (fun K hK => ?_)
    simp only [SQ_eq]
    go_simp
    refine Exists.intro (Value.string S0) (And.intro (fun w' hw => (print_any _ M w' _ (hQM.out w' hw).s2 (by have := hMlH.out; omega) (fun x hx => by have := hMsH.out x hx; unfold sm at this; omega) rfl (by have h1 := groups_bound2 hMsH.out; have := hMlH.out; omega)).mono (fun e z h => ⟨by rw [h.1, hS0H.out], ⟨hw.b.trans (h.2.mono hw.b.size)⟩⟩)) ?_)
    go_simp
    refine hK _ ?_
    clear hK K
    refine WQ_step (fun K hK => ?_)
    simp only [SQ_eq]
    go_simp
    refine Exists.intro (Value.agg #[.slice a2 n2 cc2]) (And.intro (fun w' hw => (by have h := (hQM.out w' hw).c2; simp [h])) ?_)
    go_simp
    refine hK _ ?_
    clear hK K
    refine WQ_step (fun K hK => ?_)
    simp only [SQ_eq]
    go_simp
    refine Exists.intro (Value.string S0) (And.intro (fun w' hw => (rprint_any _ M w' (hQM.out w' hw).s2 (by have := hMlH.out; omega) (fun x hx => by have := hMsH.out x hx; unfold sm at this; omega)).mono (fun e z h => by
      obtain ⟨⟨S, rfl, hS⟩, hb⟩ := h
      have : S = S0 := by rw [← hS0H.out, prt_rprt, ← hS, Lib.mk_data]
      exact ⟨by rw [this], ⟨hw.b.trans (hb.mono hw.b.size)⟩⟩)) ?_)
    go_simp
    refine hK _ ?_
    clear hK K
    iterate 2 (refine WQ_step (fun K hK => ?_); simp only [SQ_eq]; go_simp; refine hK _ ?_; clear hK K)
    refine WQ_nil ?_
    intro y hy
    clear hconst hC0
    have hMy := hQM.out y hy
    clear hQM hS0H
    obtain ⟨U1, hU1⟩ : ∃ U1, y.alloc (.cells #[.slice none 0 0] 37) = U1 := ⟨_, rfl⟩
    have mU1 : ∀ F, Mv F y U1 := fun F => by rw [← hU1]; exact Mv.alloc _ _ _
    have kU1 : Cl y.heap.size (.slice none 0 0) U1 := by rw [← hU1]; exact ⟨cell_at rfl rfl, World.frozen?_alloc_new _ _ _ _⟩
    have sU1 : U1.heap.size = y.heap.size + 1 := by rw [← hU1]; simp
    obtain ⟨U2, hU2⟩ : ∃ U2, U1.alloc (.cells #[.slice none 0 0] 38) = U2 := ⟨_, rfl⟩
    have mU2 : ∀ F, Mv F U1 U2 := fun F => by rw [← hU2]; exact Mv.alloc _ _ _
    have kU2 : Cl (y.heap.size + 1) (.slice none 0 0) U2 := by rw [← hU2]; exact ⟨cell_at sU1 rfl, by rw [← sU1]; exact World.frozen?_alloc_new _ _ _ _⟩
    have sU2 : U2.heap.size = y.heap.size + 2 := by rw [← hU2]; simp; omega
    have hNo : ∀ (k : Nat) (h : (fun _ : Nat => False) k), False := fun _ h => h
    have hMU : MC w3 w5.heap.size (w5.heap.size + 1) (.slice a1 n1 cc1) (.slice a2 n2 cc2) M U2 := hMy.next (((mU1 (fun _ => False)).trans' (mU2 (fun _ => False))).toBelow (Nat.le_refl _) (fun _ _ h => h))
    have hoU := hidI6 (own_mv (own_mv (own_mv ho6.out (Mv.below (E := fun _ => False) hy.b) (fun _ _ h => h)) (mU1 (fun _ => False)) (fun _ _ h => h)) (mU2 (fun _ => False)) (fun _ _ h => h))
    have kU1' := kU1.mv (mU2 (fun _ => False)) (fun h => h)
    have zw : w.heap.size < w3.heap.size := cell_lt cs3H.out
    have csU := (hMU.be.cell (p := ⟨w.heap.size, 0, none⟩) zw).trans cs3H.out
    have z6 := hy.b.size
    obtain ⟨hs56, z34, z45⟩ := hszs.out
    have qr := hMU.c2
    obtain ⟨q, hq⟩ : ∃ q, M.length = q := ⟨_, rfl⟩
    obtain ⟨p, hp⟩ : ∃ p, y.heap.size = p := ⟨_, rfl⟩
    obtain ⟨br, hbr⟩ : ∃ br, w5.heap.size + 1 = br := ⟨_, rfl⟩
    rw [hp] at kU1 kU2 kU1' sU1 sU2 z6
    rw [hbr] at qr
    have hQ := hidI6 hq
    have hrb : br < p := by omega
    have hwr : w.heap.size < br := by omega
    have hzU := hidI6 (hz3H.out.trans (hMU.be.mono hz3H.out.size))
    have hslU : Hid (SlIs (fun k => p ≤ k) U2 (.slice a2 n2 cc2) M) := hMy.s2.mv ((mU1 (fun _ => False)).trans' (mU2 (fun _ => False))) (fun k h => .inr (by rw [hp]; exact h))
    clear hMU hMy ho6 hMCH hszs hq cs3H z34 z45 hs56 kU1 z6 hy hz3H zw
    have hall := hidI6 (all_own _ (.slice a2 n2 cc2) M sec key U2 hoU.out (by have := hMlH.out; omega))
    rw [hbr]
    go_upto_region 10 with (first | rw [hU1] | rw [hU2])
    clear hU1 hU2 mU1 mU2
    go_wp2_with fail
    refine hall.out.mono ?_
    rintro e X1 ⟨b1, b2, b3, v3, rfl, hvb, hbX1⟩
    have hvb2 : VBox (fun k => k = p ∨ k = p + 1) X1 b1 b2 b3 v3 sec key M := hvb.weakM (fun k h => by rcases h with h | h <;> omega)
    have hX1s := hbX1.size
    have mX1 : Mv (fun _ => False) U2 X1 := Mv.below hbX1
    have hfm : FM X1.heap.size p (p + 1) [] [] (.slice none 0 0) (.slice none 0 0) X1 := ⟨kU1'.mv mX1 (fun h => h), kU2.mv mX1 (fun h => h), World.ownsRow_nil _ _ _ _, World.ownsRow_nil _ _ _ _, fun k h => by simp [Value.ownBlock] at h⟩
    have hvals := hidI6 (valsM M b1 b2 b3 p (p + 1) w.heap.size st v3 sec key X1 (hM1H.out _ _ _ _ _) (by omega) (by omega) (by omega) (by omega) (by omega) (by omega) hvb2 hfm (mX1.cell (fun h => h) csU) (by have := hMlH.out; omega))
    have qrX := mX1.cell (fun h => h) qr
    have csX := mX1.cell (fun h => h) csU
    have hzX := hidI6 (hzU.out.trans (hbX1.mono hzU.out.size))
    have hslX := hidI6 (hslU.out.mv (Mv.below hbX1) (Gr.refl _ _))
    have hX1p : p + 2 ≤ X1.heap.size := by omega
    clear hvb hvb2 hfm hall hoU qr csU hzU hslU kU1' kU2 mX1 hbX1 hX1s
    go_wp2_with fail
    refine hvals.out.mono ?_
    rintro e X2 ⟨rfl, ⟨u1, u2, hfm2⟩, hm2⟩
    have hm2p : Mv (fun k => p ≤ k) X1 X2 := hm2.mono (fun k _ h => by rcases h with h | h | h <;> omega)
    have qr2 := hm2p.cell (a := ⟨br, 0, none⟩) (by show ¬ p ≤ br; omega) qrX
    have cs2 := hm2p.cell (a := ⟨w.heap.size, 0, none⟩) (by show ¬ p ≤ w.heap.size; omega) csX
    have hsl2 := hslX.out.mv hm2p (Gr.refl _ _)
    have hz2 := hidI6 (hzX.out.trans (hm2p.toBelow (by show w.heap.size ≤ X1.heap.size; omega) (fun k hk h => by show False; have : p ≤ k := h; omega)))
    clear hvals qrX csX hzX hslX hm2 hm2p
    obtain ⟨av, cv, hv, hs1⟩ := hsl2
    simp only [Value.slice.injEq] at hv
    obtain ⟨rfl, hn2, rfl⟩ := hv
    have hn2q := hn2.trans hQ.out
    subst hn2q
    clear hn2
    obtain ⟨Hh, hHh⟩ : ∃ Hh, hits sec key 0 M = Hh := ⟨_, rfl⟩
    obtain ⟨X, hX⟩ : ∃ X, tk st Hh = X := ⟨_, rfl⟩
    rw [hHh, hX] at hfm2
    obtain ⟨az1, gz1, cz1, hu1, ha1, hc1⟩ := own_row1 hfm2.o1 (by simp)
    obtain ⟨az2, gz2, cz2, hu2, ha2, hc2⟩ := own_row1 hfm2.o2 (by simp)
    subst hu1 hu2
    have k1 := hfm2.c1.c
    have k2 := hfm2.c2.c
    have e1 : ∀ (j : Nat) (t : Nat × ByteArray), X[j]? = some t → X2.cell? ⟨gz1, j, none⟩ = some (.int .i64 t.1) := fun j t h => hc1 j _ (by simp [h])
    have e2 : ∀ (j : Nat) (t : Nat × ByteArray), X[j]? = some t → X2.cell? ⟨gz2, j, none⟩ = some (.string t.2) := fun j t h => hc2 j _ (by simp [h])
    simp only [List.length_map] at k1 k2 ha1 ha2
    obtain ⟨m, hm⟩ : ∃ m, X.length = m := ⟨_, rfl⟩
    rw [hm] at k1 k2 ha1 ha2
    have hmX := hidI6 hm
    have hXH := hidI6 hX
    have hHH := hidI6 hHh
    have hs1H := hidI6 hs1
    have e1H := hidI6 e1
    have e2H := hidI6 e2
    have hl2 : n2 ≤ 200 := by have := hMlH.out; have := hQ.out; omega
    have hpX2 : p + 1 < X2.heap.size := cell_lt k2
    have hbX2 : br < X2.heap.size := cell_lt qr2
    clear hfm2 hc1 hc2 hm hX hHh hs1 e1 e2
    go_wp2_with fail
    go_loopw [13, 14, 15, 16] (fun v13 v14 v15 v16 wr => ∃ (k j : Nat) (L : ByteArray × Bool), k ≤ n2 ∧ j ≤ k ∧ v13 = .int .i64 j ∧ v14 = .string L.1 ∧ v15 = .bool L.2 ∧ v16 = .int .i64 k ∧ Hid (j = atN st (hits sec key 0 (M.take k))) ∧ Hid (lastV (hits sec key 0 (M.take k)) (⟨#[]⟩, false) = L) ∧ Below X2.heap.size X2 wr) (fun _ _ _ i _ => n2 - (intOf i).toNat)
    case atStart => exact ⟨0, 0, (⟨#[]⟩, false), by omega, by omega, rfl, rfl, rfl, rfl, by show _ = _; simp [hits, atN], by show _ = _; simp [hits, lastV], Below.refl _ _⟩
    case round =>
      obtain ⟨k, j, L, hk, hjk, rfl, rfl, rfl, rfl, hj, hL, hb⟩ := hrel
      have qw := (hb.cell (p := ⟨br, 0, none⟩) hbX2).trans qr2
      have qs := (hb.cell (p := ⟨w.heap.size, 0, none⟩) (by show w.heap.size < _; omega)).trans cs2
      have f1 := (hb.cell (p := ⟨p, 0, none⟩) (by show p < _; omega)).trans k1
      have f2 := (hb.cell (p := ⟨p + 1, 0, none⟩) hpX2).trans k2
      by_cases hlt : k < n2
      · obtain ⟨gb, o, rfl, -, hs2⟩ := hs1H.out (by have := hQ.out; omega)
        obtain ⟨x, hx⟩ : ∃ x, M[k]? = some x := ⟨_, List.getElem?_eq_getElem (by rw [hQ.out]; exact hlt)⟩
        obtain ⟨p0, p1, p2, p3⟩ := (hs2 k x hx).mv (Mv.below (E := fun _ => False) hb) (fun h => h)
        have hsn := hits_snoc sec key M k x hx
        have hkI : (k : Int) < (n2 : Int) := by omega
        obtain ⟨Y, hY⟩ : ∃ Y, wr.alloc (.cells #[.string x.s, .string x.k, .string x.v, .int .i64 x.n] 44) = Y := ⟨_, rfl⟩
        have hbY : Below wr.heap.size wr Y := by rw [← hY]; exact (Below.refl _ _).alloc (Nat.le_refl _) _
        have x0 : Y.cell? ⟨wr.heap.size, 0, none⟩ = some (.string x.s) := by rw [← hY]; exact cell_at rfl rfl
        have x1 : Y.cell? ⟨wr.heap.size, 1, none⟩ = some (.string x.k) := by rw [← hY]; exact cell_at rfl rfl
        have x2 : Y.cell? ⟨wr.heap.size, 2, none⟩ = some (.string x.v) := by rw [← hY]; exact cell_at rfl rfl
        have hbs := hb.size
        have y1 := (hbY.cell (p := ⟨p, 0, none⟩) (by show p < _; omega)).trans f1
        have y2 := (hbY.cell (p := ⟨p + 1, 0, none⟩) (by show p + 1 < _; omega)).trans f2
        have ys := (hbY.cell (p := ⟨w.heap.size, 0, none⟩) (by show w.heap.size < _; omega)).trans qs
        have hbZ := hidI6 (hb.trans (hbY.mono hb.size))
        clear hs2 f1 f2 qs hbY hb
        by_cases c1 : x.s = sec
        · have c1b : (x.s.toList == sec.toList) = true := by rw [str_eq', c1]; simp
          by_cases c2 : x.k = key
          · have c2b : (x.k.toList == key.toList) = true := by rw [str_eq', c2]; simp
            rw [if_pos ⟨c1, c2⟩] at hsn
            have hL2 : Hid (lastV (hits sec key 0 (M.take (k + 1))) (⟨#[]⟩, false) = (x.v, true)) := by show _ = _; rw [hsn]; exact lastV_snoc (k, x.v) _ _
            by_cases g1 : 1 ≤ st
            · by_cases g2 : st ≤ (j : Int)
              · have hj2 : Hid (j = atN st (hits sec key 0 (M.take (k + 1)))) := by
                  show _ = _
                  rw [hsn, atN_full st _ (k, x.v) ⟨g1, by rw [← hj.out]; exact g2⟩]
                  exact hj.out
                clear hsn hj hL c1 c2 hx
                go_wp2_with (rw [hY])
                exact ⟨⟨k + 1, j, (x.v, true), by omega, by omega, rfl, rfl, rfl, by go_num, hj2, hL2, hbZ.out⟩, by simp [intOf]; omega⟩
              · have g2I : decide (st ≤ (j : Int)) = false := decide_eq_false g2
                have hnot : ¬ (1 ≤ st ∧ st ≤ (atN st (hits sec key 0 (M.take k)) : Int)) := by rw [← hj.out]; omega
                have hjX : X[j]? = some (k, x.v) := by
                  have h := tk_at st (hits sec key 0 (M.take k)) (hits sec key (k + 1) (M.drop (k + 1))) (k, x.v) hnot
                  rw [← hits_yes c1 c2, ← dropS hx, ← hits_take sec key M k (by have := hQ.out; omega), hHH.out, hXH.out, ← hj.out] at h
                  exact h
                have hjm : j < m := by have := (List.getElem?_eq_some_iff.1 hjX).1; have := hmX.out; omega
                have hj2 : Hid (j + 1 = atN st (hits sec key 0 (M.take (k + 1)))) := by
                  show _ = _
                  rw [hsn, atN_more st _ (k, x.v) hnot, ← hj.out]
                obtain rfl := ha1 (by omega)
                obtain rfl := ha2 (by omega)
                have zb1 := e1H.out j _ hjX
                have zb2 := e2H.out j _ hjX
                have z1 := (hbZ.out.cell (cell_lt zb1)).trans zb1
                have z2 := (hbZ.out.cell (cell_lt zb2)).trans zb2
                have hjI : decide ((m : Int) ≤ (j : Int)) = false := decide_eq_false (by omega)
                have hjJ : (j : Int) < (m : Int) := by omega
                have hjK : ¬ (m : Int) ≤ (j : Int) := by omega
                clear hsn hj hL c1 c2 hx hnot hjX zb1 zb2 ha1 ha2
                go_upto_region 20 with (rw [hY])
                go_quiet (fail)
                go_wp2_with fail
                exact ⟨⟨k + 1, j + 1, (x.v, true), by omega, by omega, by go_num, rfl, rfl, by go_num, hj2, hL2, below_drewN hbZ.out _⟩, by simp [intOf]; omega⟩
            · have g1I : decide (1 ≤ st) = false := decide_eq_false g1
              have hnot : ¬ (1 ≤ st ∧ st ≤ (atN st (hits sec key 0 (M.take k)) : Int)) := by rw [← hj.out]; omega
              have hjX : X[j]? = some (k, x.v) := by
                have h := tk_at st (hits sec key 0 (M.take k)) (hits sec key (k + 1) (M.drop (k + 1))) (k, x.v) hnot
                rw [← hits_yes c1 c2, ← dropS hx, ← hits_take sec key M k (by have := hQ.out; omega), hHH.out, hXH.out, ← hj.out] at h
                exact h
              have hjm : j < m := by have := (List.getElem?_eq_some_iff.1 hjX).1; have := hmX.out; omega
              have hj2 : Hid (j + 1 = atN st (hits sec key 0 (M.take (k + 1)))) := by
                show _ = _
                rw [hsn, atN_more st _ (k, x.v) hnot, ← hj.out]
              obtain rfl := ha1 (by omega)
              obtain rfl := ha2 (by omega)
              have zb1 := e1H.out j _ hjX
              have zb2 := e2H.out j _ hjX
              have z1 := (hbZ.out.cell (cell_lt zb1)).trans zb1
              have z2 := (hbZ.out.cell (cell_lt zb2)).trans zb2
              have hjI : decide ((m : Int) ≤ (j : Int)) = false := decide_eq_false (by omega)
              have hjJ : (j : Int) < (m : Int) := by omega
              have hjK : ¬ (m : Int) ≤ (j : Int) := by omega
              clear hsn hj hL c1 c2 hx hnot hjX zb1 zb2 ha1 ha2
              go_upto_region 20 with (rw [hY])
              go_quiet (fail)
              go_wp2_with fail
              exact ⟨⟨k + 1, j + 1, (x.v, true), by omega, by omega, by go_num, rfl, rfl, by go_num, hj2, hL2, below_drewN hbZ.out _⟩, by simp [intOf]; omega⟩
          · have c2b : (x.k.toList == key.toList) = false := by rw [str_eq']; simp [c2]
            rw [if_neg (fun h => c2 h.2), List.append_nil] at hsn
            rw [← hsn] at hj hL
            clear hsn c1 c2 hx
            go_wp2_with (rw [hY])
            exact ⟨⟨k + 1, j, L, by omega, by omega, rfl, rfl, rfl, by go_num, hj, hL, hbZ.out⟩, by simp [intOf]; omega⟩
        · have c1b : (x.s.toList == sec.toList) = false := by rw [str_eq']; simp [c1]
          rw [if_neg (fun h => c1 h.1), List.append_nil] at hsn
          rw [← hsn] at hj hL
          clear hsn c1 hx
          go_wp2_with (rw [hY])
          exact ⟨⟨k + 1, j, L, by omega, by omega, rfl, rfl, rfl, by go_num, hj, hL, hbZ.out⟩, by simp [intOf]; omega⟩
      · have hfull : M.take k = M := List.take_of_length_le (by have := hQ.out; omega)
        have hkI : decide ((k : Int) < (n2 : Int)) = false := decide_eq_false (by omega)
        have hkJ : ¬ (k : Int) < (n2 : Int) := by omega
        rw [hfull, hHH.out] at hj
        rw [hfull] at hL
        have hjm : j = m := by rw [hj.out, ← atN_len, hXH.out, hmX.out]
        have hsl3 : SlIs (fun _ => False) wr (.slice a2 n2 cc2) M := by
          refine SlIs.mv (E := fun _ => False) (W := X2) ⟨a2, cc2, by rw [hQ.out], fun h0 => ?_⟩ (Mv.below hb) (Gr.refl _ _)
          obtain ⟨g, o, h1, _, h3⟩ := hs1H.out h0
          exact ⟨g, o, h1, fun h => h, h3⟩
        have hlast := hidI6 (last_any (.slice a2 n2 cc2) M sec key wr hsl3 (by have := hMlH.out; omega) L hL.out)
        have hbs := hb.size
        have hzr := hidI6 (hz2.out.trans (hb.mono hz2.out.size))
        subst hjm
        clear hs1H e1H e2H ha1 ha2 hmX hXH hHH hj hL hfull k1 k2 qr2 cs2 f2 qs hz2
        go_wp2_with fail
        refine hlast.out.mono ?_
        rintro e X4 ⟨rfl, hb4⟩
        have m4 : Mv (fun _ => False) wr X4 := Mv.below hb4
        have r1 := m4.cell (fun h => h) f1
        have rr := m4.cell (fun h => h) qw
        have hb4s := hb4.size
        have hz4 := hidI6 (hzr.out.trans (hb4.mono hzr.out.size))
        have hsl4 := hsl3.mv m4 (Gr.refl _ _)
        obtain ⟨pn, hpn⟩ : ∃ pn, X4.heap.size = pn := ⟨_, rfl⟩
        obtain ⟨U5, hU5⟩ : ∃ U5, X4.alloc (.cells #[.slice none 0 0] 38) = U5 := ⟨_, rfl⟩
        have m5 : ∀ F, Mv F X4 U5 := fun F => by rw [← hU5]; exact Mv.alloc _ _ _
        have k5 : Cl pn (.slice none 0 0) U5 := by rw [← hU5, ← hpn]; exact ⟨cell_at rfl rfl, World.frozen?_alloc_new _ _ _ _⟩
        have s5 : U5.heap.size = pn + 1 := by rw [← hU5, ← hpn]; simp
        have rr5 := (m5 (fun _ => False)).cell (fun h => h) rr
        have hsl5 : Hid (SlIs (fun k => pn ≤ k) U5 (.slice a2 n2 cc2) M) := hsl4.mv (m5 (fun _ => False)) (fun k h => .inr (by rw [hpn]; exact h))
        have hz5 := hidI6 (hz4.out.trans ((m5 (fun _ => False)).toBelow hz4.out.size (fun _ _ h => h)))
        have hsec := hidI6 (sections_any (.slice a2 n2 cc2) M U5 (SlIs.anti (fun _ h => h.elim) hsl5.out) (by have := hMlH.out; omega) (fun x hx => by have := hMsH.out x hx; unfold sm at this; omega))
        clear hlast f1 qw hzr hsl3 m4 hb4 hz4 hsl4 rr
        go_wp2_with (rw [hU5])
        refine hsec.out.mono ?_
        rintro e X6 ⟨bb, az, gz, cz, rfl, hbb, cbb, hz6, hc6, hb6⟩
        have m6 : Mv (fun _ => False) U5 X6 := Mv.below hb6
        have hb6s := hb6.size
        have hsl6 := hsl5.out.mv (Mv.below hb6) (Gr.refl _ _)
        have rr6 := m6.cell (fun h => h) rr5
        have hz6w := hidI6 (hz5.out.trans (hb6.mono hz5.out.size))
        have hseclen : (secs M).length ≤ 200 := by have h1 := addS_fold_len M []; have h2 := hMlH.out; unfold secs; simp only [List.length_nil] at h1; omega
        have hvs := hidI6 (svalsD (secs M) bb pn gz 0 cz az X6 (by omega) cbb (fun h0 => ⟨(hz6 h0).1, by have := (hz6 h0).2; omega⟩) (fun j s h => by rw [Nat.zero_add]; exact hc6 j s h) (k5.mv m6 (fun h => h)) (by omega))
        have hpw : w.heap.size < pn := by omega
        clear hsec hU5 m5 k5 rr5 hsl5 hz5 cbb hz6 hc6 m6 hb6 r1
        go_wp2_with fail
        refine hvs.out.mono ?_
        rintro e X7 ⟨rfl, vN, hcN, hoN, hm7⟩
        have hm7p : Mv (fun k => pn ≤ k) X6 X7 := hm7.mono (fun k _ h => by rcases h with h | h <;> omega)
        have rr7 := hm7p.cell (a := ⟨br, 0, none⟩) (by show ¬ pn ≤ br; omega) rr6
        have hsl7 := hidI6 (SlIs.anti (fun _ h => h.elim) (hsl6.mv hm7p (Gr.refl _ _)) : SlIs (fun _ => False) X7 (.slice a2 n2 cc2) M)
        have hz7 := hidI6 (hz6w.out.trans (hm7p.toBelow hz6w.out.size (fun k hk h => by show False; have : pn ≤ k := h; omega)))
        obtain ⟨aN, gN, cN, hvN, haN, hcellN⟩ := own_row1 hoN (by simp)
        subst hvN
        obtain ⟨ln, hln⟩ : ∃ ln, (secs M).length = ln := ⟨_, rfl⟩
        have hlnH := hidI6 hln
        have kN := hcN.c
        rw [hln] at kN haN
        have haNH := hidI6 haN
        have hcNH : Hid (∀ (j : Nat) (x : ByteArray), (secs M)[j]? = some x → X7.cell? ⟨gN, j, none⟩ = some (.string x)) := fun j x h => hcellN j _ (by simp [h])
        have hall : ∀ y, Below X7.heap.size X7 y → ((y.cell? ⟨pn, 0, none⟩ = some (.slice aN ln cN) ∧ y.cell? ⟨br, 0, none⟩ = some (.slice a2 n2 cc2)) ∧ Hid (Below X7.heap.size X7 y)) := fun y hb => ⟨⟨(hb.cell (cell_lt kN)).trans kN, (hb.cell (cell_lt rr7)).trans rr7⟩, hb⟩
        clear hvs hcN hoN hm7 hm7p rr6 hsl6 hz6w haN hcellN kN rr7 hln
        go_upto_region 28 with fail
        refine wp_region_held_drew (S := fun y => (y.cell? ⟨pn, 0, none⟩ = some (.slice aN ln cN) ∧ y.cell? ⟨br, 0, none⟩ = some (.slice a2 n2 cc2)) ∧ Hid (Below X7.heap.size X7 y)) (by kernel_rfl) (hall _ (Below.refl _ _).drew) (fun hHeld => ?_)
        refine wpAnyH_take (i := 0) (oi := ⟨some 126, _, _, _, _, _⟩) (v := ?v0) rfl (by kernel_rfl) (by kernel_rfl) (by kernel_rfl) (fun _ _ _ h => h) (Or.inl ⟨by rfl, ?hy0⟩) (by assumption) ?_
        case hy0 => (intro w hSw; (try dsimp only at hSw); go_simp; try with_reducible rfl)
        simp only [Act.put, List.setIfInBounds_toArray, List.set_cons_zero, List.set_cons_succ]
        refine wpAnyH_take (i := 1) (oi := ⟨some 127, _, _, _, _, _⟩) (v := ?v1) rfl (by kernel_rfl) (by kernel_rfl) (by kernel_rfl) (fun _ _ _ h => h) (Or.inl ⟨by rfl, ?hy1⟩) (by assumption) ?_
        case hy1 => (intro w hSw; (try dsimp only at hSw); go_simp; try with_reducible rfl)
        simp only [Act.put, List.setIfInBounds_toArray, List.set_cons_zero, List.set_cons_succ]
        refine wpAnyH_ready (rs := [2]) (by kernel_rfl) (by simp) ?_
        refine AllReadyH.cons (o := ⟨some 128, _, _, _, _, _⟩) rfl (fun K hK => ?_) AllReadyH.nil
        go_simp
        have bD : Below X7.heap.size X7 X7.drew := (Below.refl _ X7).drew
        refine (rsec_any _ M X7.drew (hsl7.out.mv (Mv.below bD) (Gr.refl _ _)) (by have := hMlH.out; omega)).mono ?_
        rintro e y1 ⟨v5, rfl, ho5, hb5⟩
        have bE := bD.trans (hb5.mono bD.size)
        obtain ⟨a5, g5, c5, hv5, ha5, hc5⟩ := own_row1 ho5 (by simp)
        subst hv5
        rw [hlnH.out] at ha5 ⊢
        have ha5H := hidI6 ha5
        have hc5H : Hid (∀ (j : Nat) (x : ByteArray), (secs M)[j]? = some x → y1.cell? ⟨g5, j, none⟩ = some (.string x)) := fun j x h => hc5 j _ (by simp [h])
        have htx := texts_same aN a5 gN 0 cN g5 0 c5 (secs M) y1 (fun h => haNH.out (by have := hlnH.out; omega)) (fun h => ha5H.out (by have := hlnH.out; omega)) (fun j x h => by rw [Nat.zero_add]; have h7 := hcNH.out j x h; exact (bE.cell (cell_lt h7)).trans h7) (fun j x h => by rw [Nat.zero_add]; exact hc5H.out j x h) (by have := hlnH.out; omega)
        rw [hlnH.out] at htx
        have htxH := hidI6 htx
        clear ho5 hc5 ha5 htx
        go_wp2_with fail
        refine hK.out _ _ (hall _ bE) (fun _ => ?_)
        clear hK K
        try simp only [Act.put, List.setIfInBounds_toArray, List.set_cons_zero, List.set_cons_succ]
        refine wpAnyH_ready (rs := [3]) (by kernel_rfl) (by simp) ?_
        refine AllReadyH.cons (o := ⟨some 129, _, _, _, _, _⟩) rfl (fun K hK => ?_) AllReadyH.nil
        go_simp
        refine htxH.out.mono ?_
        rintro e y2 ⟨rfl, hb8⟩
        have bF := bE.trans (hb8.mono bE.size)
        have hzF := hidI6 (hz7.out.trans (bF.mono hz7.out.size))
        go_wp2_with fail
        refine hK.out _ _ (hall _ bF) (fun _ => ?_)
        clear hK K
        try simp only [Act.put, List.setIfInBounds_toArray, List.set_cons_zero, List.set_cons_succ]
        refine wpAnyH_take (i := 4) (oi := ⟨some 8, _, _, _, _, _⟩) (v := ?v4) rfl (by kernel_rfl) (by kernel_rfl) (by kernel_rfl) (fun _ _ _ h => h) (Or.inl ⟨by rfl, ?hy4⟩) (by assumption) ?_
        case hy4 => (intro w hSw; (try dsimp only at hSw); go_simp; try with_reducible rfl)
        simp only [Act.put, List.setIfInBounds_toArray, List.set_cons_zero, List.set_cons_succ]
        refine wpAnyH_done (by kernel_rfl) ?_ _
        go_wp2_with fail
        go_ret
        exact ⟨rfl, hzF.out⟩
end Go.Proofs.YtiinhfbfciccnaaDoor
