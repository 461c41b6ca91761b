import Derived.Test.YtcfclknfnadgcaaDoorBam
/- A law's own row of a unit's edges: gone through. -/
namespace Go.Proofs.YtcfclknfnadgcaaDoor
open Go.RowKit Go.Shelf Go.Lib
attribute [local go_sem] Oper.semAt_some
set_option maxRecDepth 100000 in
set_option maxHeartbeats 4000000 in
theorem out_row (ys : List Ed) (A sb : Nat) (vv : Value) (W : World) (cv : W.cell? ⟨sb, 0, none⟩ = some vv) (svv : Eg.SV W vv ys) (hl : ys.length ≤ 499) (tk : Tk A (.slice none 0 0) W []) (nsb : sb ≠ A) (nvv : nbk vv ≠ some A) :
    Calls Tryd.prog 57 #[.func (.func 23) #[] #[.pointer (some ⟨A, 0, none⟩)], .pointer (some ⟨sb, 0, none⟩)] W fun e V => e = .returned (.tuple #[]) ∧ ∃ v', Tk A v' V ys ∧ Mv (fun k => k = A) W V ∧ (∀ k, nbk v' = some k → W.heap.size ≤ k) := by
  have hcel : Hid (∀ (j : Nat) (x : Ed), ys[j]? = some x → ∃ gb o c, vv = .slice (some ⟨gb, o, none⟩) ys.length c ∧ ∀ wr, Mv (fun k => k = A) W wr → wr.cell? ⟨gb, o + j * 3, none⟩ = some (.int .i64 x.1) ∧ wr.cell? ⟨gb, o + j * 3 + 1, none⟩ = some (.string x.2.1) ∧ wr.cell? ⟨gb, o + j * 3 + 2, none⟩ = some (.string x.2.2)) := by
    intro j x hx
    rcases svv with ⟨_, rfl⟩ | ⟨gb, o, c, rfl, rs⟩
    · cases hx
    · refine ⟨gb, o, c, rfl, fun wr m2 => ?_⟩
      have n1 : ¬ gb = A := fun e => nvv (by rw [e]; rfl)
      obtain ⟨c0, c1, c2⟩ := rs.ra.at hx
      exact ⟨m2.cell (a := ⟨gb, _, none⟩) n1 c0, m2.cell (a := ⟨gb, _, none⟩) n1 c1, m2.cell (a := ⟨gb, _, none⟩) n1 c2⟩
  obtain ⟨p, cap, rfl⟩ := svv.shape
  obtain ⟨n, hn⟩ : ∃ n, ys.length = n := ⟨_, rfl⟩
  rw [hn] at cv hcel
  have hN : Hid (ys.length = n ∧ n ≤ 499) := ⟨hn, by omega⟩
  have hn499 : n ≤ 499 := hN.2
  have hI0 : Hid (∃ v', Tk A v' W (ys.take 0) ∧ Mv (fun k => k = A) W W ∧ (∀ k, nbk v' = some k → W.heap.size ≤ k)) := ⟨_, tk, Mv.refl _ _, fun k hk => by cases hk⟩
  clear hn svv hl tk nvv
  go_enter Tryd.func57, Tryd.ntmps57
  go_wp2_with fail
  go_loopw [7] (fun i wr => ∃ (k : Nat), k ≤ n ∧ i = .int .i64 k ∧ Hid (∃ v', Tk A v' wr (ys.take k) ∧ Mv (fun k => k = A) W wr ∧ (∀ k, nbk v' = some k → W.heap.size ≤ k))) (fun i _ => n - (intOf i).toNat)
  case atStart => exact ⟨0, by omega, rfl, hI0⟩
  case round =>
    obtain ⟨k, k0, rfl, hI⟩ := hrel
    clear hI0
    by_cases hlt : k < n
    · have hltI : (k : Int) < (n : Int) := by omega
      obtain ⟨x, hx⟩ : ∃ x, ys[k]? = some x := ⟨_, List.getElem?_eq_getElem (by rw [hN.out.1]; omega)⟩
      obtain ⟨v', tk, hm, hfr⟩ := hI.out
      obtain ⟨gb, o, c, ep, hcw⟩ := hcel.out k x hx
      obtain ⟨rfl, rfl⟩ : p = some ⟨gb, o, none⟩ ∧ cap = c := by cases ep; exact ⟨rfl, rfl⟩
      obtain ⟨p0, p1, p2⟩ := hcw wr hm
      have hlk : (ys.take k).length ≤ 498 := by rw [List.length_take]; have := hN.out.2; omega
      have al : Mv (fun _ => False) wr (wr.alloc (Eg.bxE x)) := Mv.alloc _ _ _
      have hC := out1_any x (ys.take k) v' A (wr.alloc (Eg.bxE x)) (tk.cl.mv al (fun q => q)) (tk.sv.mv al (fun _ _ q => q)) tk.ne hlk
      have htk : ys.take k ++ [x] = ys.take (k + 1) := by
        obtain ⟨h1, h2⟩ := List.getElem?_eq_some_iff.1 hx
        rw [List.take_succ_eq_append_getElem h1, h2]
      have hCH : Hid (Calls Tryd.prog 23 #[.agg #[.int .i64 x.1, .string x.2.1, .string x.2.2], .pointer (some ⟨A, 0, none⟩)] (wr.alloc (Eg.bxE x)) fun e V => e = .returned (.bool true) ∧ Hid (∃ v', Tk A v' V (ys.take (k + 1)) ∧ Mv (fun k => k = A) W V ∧ (∀ k, nbk v' = some k → W.heap.size ≤ k))) := by
        refine hC.mono ?_
        rintro e V ⟨rfl, v2, t2, m2, a2⟩
        have hsz := hm.size
        have hal : wr.heap.size ≤ (wr.alloc (Eg.bxE x)).heap.size := al.size
        refine ⟨rfl, v2, by rw [← htk]; exact t2, (hm.trans' (Mv.alloc _ _ _)).trans (fun k hk => ?_) m2, fun k hk => ?_⟩
        · rcases hk with hk | hk
          · exact .inl hk
          · exact .inr (hfr k hk)
        · rcases a2 with z | ⟨j, z, hj⟩
          · exact hfr k (z ▸ hk)
          · rw [hk] at z; injection z with z; omega
      have d3 := hm.cell (a := ⟨sb, 0, none⟩) nsb cv
      clear hx hcw ep hC hI htk hlk al tk hm hfr
      go_wp2_with fail
      refine hCH.out.mono ?_
      rintro e V ⟨rfl, hI2⟩
      clear hCH
      go_wp2_with fail
      exact ⟨⟨k + 1, by omega, by go_num, hI2⟩, by simp [intOf]; omega⟩
    · obtain rfl : k = n := by omega
      have hkI : ¬ (k : Int) < (k : Int) := by omega
      have fin : Hid (∃ v', Tk A v' wr ys ∧ Mv (fun k => k = A) W wr ∧ (∀ k, nbk v' = some k → W.heap.size ≤ k)) := by
        have := hI.out
        rwa [List.take_of_length_le (by rw [hN.out.1]; exact Nat.le_refl _)] at this
      clear hI
      go_wp2_with fail
      go_end0
      exact ⟨rfl, fin.out⟩
end Go.Proofs.YtcfclknfnadgcaaDoor
/- A law's own row of a unit's edges: gone through. -/
namespace Go.Proofs.YtcfclknfnadgcaaDoor
open Go.RowKit Go.Shelf Go.Lib
attribute [local go_sem] Oper.semAt_some
set_option maxRecDepth 100000 in
set_option maxHeartbeats 4000000 in
theorem into_row (ys : List Ed) (A sb : Nat) (vv : Value) (W : World) (cv : W.cell? ⟨sb, 0, none⟩ = some vv) (svv : Eg.SV W vv ys) (hl : ys.length ≤ 499) (tk : Tk A (.slice none 0 0) W []) (nsb : sb ≠ A) (nvv : nbk vv ≠ some A) :
    Calls Tryd.prog 57 #[.func (.func 25) #[] #[.pointer (some ⟨A, 0, none⟩)], .pointer (some ⟨sb, 0, none⟩)] W fun e V => e = .returned (.tuple #[]) ∧ ∃ v', Tk A v' V ys ∧ Mv (fun k => k = A) W V ∧ (∀ k, nbk v' = some k → W.heap.size ≤ k) := by
  have hcel : Hid (∀ (j : Nat) (x : Ed), ys[j]? = some x → ∃ gb o c, vv = .slice (some ⟨gb, o, none⟩) ys.length c ∧ ∀ wr, Mv (fun k => k = A) W wr → wr.cell? ⟨gb, o + j * 3, none⟩ = some (.int .i64 x.1) ∧ wr.cell? ⟨gb, o + j * 3 + 1, none⟩ = some (.string x.2.1) ∧ wr.cell? ⟨gb, o + j * 3 + 2, none⟩ = some (.string x.2.2)) := by
    intro j x hx
    rcases svv with ⟨_, rfl⟩ | ⟨gb, o, c, rfl, rs⟩
    · cases hx
    · refine ⟨gb, o, c, rfl, fun wr m2 => ?_⟩
      have n1 : ¬ gb = A := fun e => nvv (by rw [e]; rfl)
      obtain ⟨c0, c1, c2⟩ := rs.ra.at hx
      exact ⟨m2.cell (a := ⟨gb, _, none⟩) n1 c0, m2.cell (a := ⟨gb, _, none⟩) n1 c1, m2.cell (a := ⟨gb, _, none⟩) n1 c2⟩
  obtain ⟨p, cap, rfl⟩ := svv.shape
  obtain ⟨n, hn⟩ : ∃ n, ys.length = n := ⟨_, rfl⟩
  rw [hn] at cv hcel
  have hN : Hid (ys.length = n ∧ n ≤ 499) := ⟨hn, by omega⟩
  have hn499 : n ≤ 499 := hN.2
  have hI0 : Hid (∃ v', Tk A v' W (ys.take 0) ∧ Mv (fun k => k = A) W W ∧ (∀ k, nbk v' = some k → W.heap.size ≤ k)) := ⟨_, tk, Mv.refl _ _, fun k hk => by cases hk⟩
  clear hn svv hl tk nvv
  go_enter Tryd.func57, Tryd.ntmps57
  go_wp2_with fail
  go_loopw [7] (fun i wr => ∃ (k : Nat), k ≤ n ∧ i = .int .i64 k ∧ Hid (∃ v', Tk A v' wr (ys.take k) ∧ Mv (fun k => k = A) W wr ∧ (∀ k, nbk v' = some k → W.heap.size ≤ k))) (fun i _ => n - (intOf i).toNat)
  case atStart => exact ⟨0, by omega, rfl, hI0⟩
  case round =>
    obtain ⟨k, k0, rfl, hI⟩ := hrel
    clear hI0
    by_cases hlt : k < n
    · have hltI : (k : Int) < (n : Int) := by omega
      obtain ⟨x, hx⟩ : ∃ x, ys[k]? = some x := ⟨_, List.getElem?_eq_getElem (by rw [hN.out.1]; omega)⟩
      obtain ⟨v', tk, hm, hfr⟩ := hI.out
      obtain ⟨gb, o, c, ep, hcw⟩ := hcel.out k x hx
      obtain ⟨rfl, rfl⟩ : p = some ⟨gb, o, none⟩ ∧ cap = c := by cases ep; exact ⟨rfl, rfl⟩
      obtain ⟨p0, p1, p2⟩ := hcw wr hm
      have hlk : (ys.take k).length ≤ 498 := by rw [List.length_take]; have := hN.out.2; omega
      have al : Mv (fun _ => False) wr (wr.alloc (Eg.bxE x)) := Mv.alloc _ _ _
      have hC := into1_any x (ys.take k) v' A (wr.alloc (Eg.bxE x)) (tk.cl.mv al (fun q => q)) (tk.sv.mv al (fun _ _ q => q)) tk.ne hlk
      have htk : ys.take k ++ [x] = ys.take (k + 1) := by
        obtain ⟨h1, h2⟩ := List.getElem?_eq_some_iff.1 hx
        rw [List.take_succ_eq_append_getElem h1, h2]
      have hCH : Hid (Calls Tryd.prog 25 #[.agg #[.int .i64 x.1, .string x.2.1, .string x.2.2], .pointer (some ⟨A, 0, none⟩)] (wr.alloc (Eg.bxE x)) fun e V => e = .returned (.bool true) ∧ Hid (∃ v', Tk A v' V (ys.take (k + 1)) ∧ Mv (fun k => k = A) W V ∧ (∀ k, nbk v' = some k → W.heap.size ≤ k))) := by
        refine hC.mono ?_
        rintro e V ⟨rfl, v2, t2, m2, a2⟩
        have hsz := hm.size
        have hal : wr.heap.size ≤ (wr.alloc (Eg.bxE x)).heap.size := al.size
        refine ⟨rfl, v2, by rw [← htk]; exact t2, (hm.trans' (Mv.alloc _ _ _)).trans (fun k hk => ?_) m2, fun k hk => ?_⟩
        · rcases hk with hk | hk
          · exact .inl hk
          · exact .inr (hfr k hk)
        · rcases a2 with z | ⟨j, z, hj⟩
          · exact hfr k (z ▸ hk)
          · rw [hk] at z; injection z with z; omega
      have d3 := hm.cell (a := ⟨sb, 0, none⟩) nsb cv
      clear hx hcw ep hC hI htk hlk al tk hm hfr
      go_wp2_with fail
      refine hCH.out.mono ?_
      rintro e V ⟨rfl, hI2⟩
      clear hCH
      go_wp2_with fail
      exact ⟨⟨k + 1, by omega, by go_num, hI2⟩, by simp [intOf]; omega⟩
    · obtain rfl : k = n := by omega
      have hkI : ¬ (k : Int) < (k : Int) := by omega
      have fin : Hid (∃ v', Tk A v' wr ys ∧ Mv (fun k => k = A) W wr ∧ (∀ k, nbk v' = some k → W.heap.size ≤ k)) := by
        have := hI.out
        rwa [List.take_of_length_le (by rw [hN.out.1]; exact Nat.le_refl _)] at this
      clear hI
      go_wp2_with fail
      go_end0
      exact ⟨rfl, fin.out⟩
end Go.Proofs.YtcfclknfnadgcaaDoor
/- A law's own row of a unit's edges: gone through. -/
namespace Go.Proofs.YtcfclknfnadgcaaDoor
open Go.RowKit Go.Shelf Go.Lib
attribute [local go_sem] Oper.semAt_some
set_option maxRecDepth 100000 in
set_option maxHeartbeats 4000000 in
theorem out_edges (S : GS) (L : UL) (W : World) (x : ByteArray) (A b1 b2 : Nat) (h : Gs W S L) (hc : S.c ≤ 400000) (hx : x.size ≤ 1000) (cb1 : W.cell? ⟨b1, 0, none⟩ = some (.pointer (some ⟨S.gb, 0, none⟩))) (cb2 : W.cell? ⟨b2, 0, none⟩ = some (.string x)) (tk : Tk A (.slice none 0 0) W []) (hb : ∀ ys : List Ed, ys.Nodup → (∀ e, e ∈ ys ↔ fw (kL L) x e ≠ 0) → ys.length ≤ 499) :
    Calls Tryd.prog 34 #[.func (.func 23) #[] #[.pointer (some ⟨A, 0, none⟩)], .pointer (some ⟨b1, 0, none⟩), .pointer (some ⟨b2, 0, none⟩)] W fun e V => e = .returned (.tuple #[]) ∧ ∃ v' ys, Tk A v' V ys ∧ Mv (fun k => k = A) W V ∧ (∀ k, nbk v' = some k → W.heap.size ≤ k) ∧ ys.Nodup ∧ ys.Pairwise (fun a b => ¬ ltE b a) ∧ (∀ e, e ∈ ys ↔ fw (kL L) x e ≠ 0) := by
  obtain ⟨gb, hgb⟩ : ∃ gb, S.gb = gb := ⟨_, rfl⟩
  obtain ⟨eb, heb⟩ : ∃ eb, S.eb1 = eb := ⟨_, rfl⟩
  have c1 := h.ed.c1
  rw [hgb] at cb1 c1
  rw [heb] at c1
  have hS : W.drew.cell? ⟨b1, 0, none⟩ = some (.pointer (some ⟨gb, 0, none⟩)) ∧ W.drew.cell? ⟨b2, 0, none⟩ = some (.string x) ∧ W.drew.cell? ⟨gb, 1, none⟩ = some (.map (some eb)) := ⟨cb1, cb2, c1⟩
  have hSo := sorted_any ((h.below (Below.refl _ _).drew).ed.e1) hc x hx
  rw [heb] at hSo
  have hbH := hidP hb
  have lA := tk.cl.lt
  have tkH : Hid (Tk A (.slice none 0 0) W.drew []) := ⟨tk.cl.mv (E := fun _ => False) (Mv.drew _ _) (fun q => q), .inl ⟨rfl, rfl⟩, tk.ne⟩
  have hrowH : Hid (∀ e V ys sb vv, Sd S.c W.drew e V (fw (kL L) x) ys sb vv → Calls Tryd.prog 57 #[.func (.func 23) #[] #[.pointer (some ⟨A, 0, none⟩)], .pointer (some ⟨sb, 0, none⟩)] V fun e V => e = .returned (.tuple #[]) ∧ Hid (∃ v' ys, Tk A v' V ys ∧ Mv (fun k => k = A) W V ∧ (∀ k, nbk v' = some k → W.heap.size ≤ k) ∧ ys.Nodup ∧ ys.Pairwise (fun a b => ¬ ltE b a) ∧ (∀ e, e ∈ ys ↔ fw (kL L) x e ≠ 0))) := by
    intro e V ys sb vv sd
    have hsb := sd.sb
    have hbz := sd.be.size
    have eD : W.drew.heap.size = W.heap.size := rfl
    have mD : Mv (fun _ => False) W.drew V := Mv.below sd.be
    refine (out_row ys A sb vv V sd.c sd.sv (hbH.out ys sd.nd sd.mem) ⟨tkH.out.cl.mv mD (fun q => q), .inl ⟨rfl, rfl⟩, tkH.out.ne⟩ (by omega) (fun q => by have := sd.fr A q; omega)).mono ?_
    rintro e2 V2 ⟨rfl, v', t, m, fr⟩
    exact ⟨rfl, v', ys, t, ((Mv.drew _ _).trans' (Mv.below sd.be)).trans' m, fun k hk => by have := fr k hk; omega, sd.nd, sd.so, sd.mem⟩
  clear cb1 cb2 c1 tk h hb
  go_enter Tryd.func34, Tryd.ntmps34
  go_wp2_with fail
  refine Zs.region (S := fun W => (W.cell? ⟨b1, 0, none⟩ = some (.pointer (some ⟨gb, 0, none⟩)) ∧ W.cell? ⟨b2, 0, none⟩ = some (.string x) ∧ W.cell? ⟨gb, 1, none⟩ = some (.map (some eb)))) 7 (by kernel_rfl) ?_
  refine Zs.takeC (i := 0) (oi := ⟨some 4, _, _, _, _, _⟩) (v := ?t0) 10 rfl (by kernel_rfl) (by kernel_rfl) (by kernel_rfl) (by decide) (by kernel_rfl) (by kernel_rfl) (by kernel_rfl) (fun _ _ _ h => h) (Or.inl ⟨by rfl, ?hy0⟩) hS ?_
  case hy0 => (intro w hSw; (try dsimp only at hSw); go_simp; try with_reducible rfl)
  simp only [Act.put, List.setIfInBounds_toArray, List.set_cons_zero, List.set_cons_succ]
  refine Zs.pure (i := 1) (oi := ⟨some 5, _, _, _, _, _⟩) (v := ?v1) rfl (by kernel_rfl) (by kernel_rfl) (by kernel_rfl) (by decide) (fun _ _ _ h => h) (Or.inl ⟨by rfl, ?hy1⟩) hS ?_
  case hy1 => (intro w hSw; (try dsimp only at hSw); go_simp; try with_reducible rfl)
  simp only [Act.put, List.setIfInBounds_toArray, List.set_cons_zero, List.set_cons_succ]
  refine Zs.pure (i := 2) (oi := ⟨some 6, _, _, _, _, _⟩) (v := ?v2) rfl (by kernel_rfl) (by kernel_rfl) (by kernel_rfl) (by decide) (fun _ _ _ h => h) (Or.inl ⟨by rfl, ?hy2⟩) hS ?_
  case hy2 => (intro w hSw; (try dsimp only at hSw); go_simp; try with_reducible rfl)
  simp only [Act.put, List.setIfInBounds_toArray, List.set_cons_zero, List.set_cons_succ]
  refine Zs.takeC (i := 3) (oi := ⟨some 7, _, _, _, _, _⟩) (v := ?t3) 10 rfl (by kernel_rfl) (by kernel_rfl) (by kernel_rfl) (by decide) (by kernel_rfl) (by kernel_rfl) (by kernel_rfl) (fun _ _ _ h => h) (Or.inl ⟨by rfl, ?hy3⟩) hS ?_
  case hy3 => (intro w hSw; (try dsimp only at hSw); go_simp; try with_reducible rfl)
  simp only [Act.put, List.setIfInBounds_toArray, List.set_cons_zero, List.set_cons_succ]
  refine Zs.takeC (i := 4) (oi := ⟨some 8, _, _, _, _, _⟩) (v := ?t4) 10 rfl (by kernel_rfl) (by kernel_rfl) (by kernel_rfl) (by decide) (by kernel_rfl) (by kernel_rfl) (by kernel_rfl) (fun _ _ _ h => h) (Or.inl ⟨by rfl, ?hy4⟩) hS ?_
  case hy4 => (intro w hSw; (try dsimp only at hSw); go_simp; try with_reducible rfl)
  simp only [Act.put, List.setIfInBounds_toArray, List.set_cons_zero, List.set_cons_succ]
  refine Zs.pure (i := 6) (oi := ⟨some 10, _, _, _, _, _⟩) (v := ?v6) rfl (by kernel_rfl) (by kernel_rfl) (by kernel_rfl) (by decide) (fun _ _ _ h => h) (Or.inl ⟨by rfl, ?hy6⟩) hS ?_
  case hy6 => (intro w hSw; (try dsimp only at hSw); go_simp; try with_reducible rfl)
  simp only [Act.put, List.setIfInBounds_toArray, List.set_cons_zero, List.set_cons_succ]
  refine Zs.one (i := 5) (oi := ⟨some 9, _, _, _, _, _⟩) (by kernel_rfl) rfl (fun K hK => ?_)
  go_simp
  refine hSo.mono ?_
  rintro e V ⟨ys, sb, sv, sd⟩
  have hSV : V.cell? ⟨b1, 0, none⟩ = some (.pointer (some ⟨gb, 0, none⟩)) ∧ V.cell? ⟨b2, 0, none⟩ = some (.string x) ∧ V.cell? ⟨gb, 1, none⟩ = some (.map (some eb)) := ⟨bcell sd.be (cell_lt hS.1) hS.1, bcell sd.be (cell_lt hS.2.1) hS.2.1, bcell sd.be (cell_lt hS.2.2) hS.2.2⟩
  have hR := hrowH.out e V ys sb sv sd
  obtain rfl := sd.ret
  clear sd hS hrowH hSo
  go_wp2_with fail
  refine hK.out _ _ (fun _ => hSV) ?_
  clear hK K
  try simp only [Act.put, List.setIfInBounds_toArray, List.set_cons_zero, List.set_cons_succ]
  refine Zs.one (i := 7) (oi := ⟨some 11, _, _, _, _, _⟩) (by kernel_rfl) rfl (fun K hK => ?_)
  go_simp
  refine hR.mono ?_
  rintro e V2 ⟨rfl, hfin⟩
  clear hR
  go_wp2_with fail
  refine hK.out _ _ (fun q => absurd q (by decide)) ?_
  clear hK K
  try simp only [Act.put, List.setIfInBounds_toArray, List.set_cons_zero, List.set_cons_succ]
  refine Zs.done (by kernel_rfl) ?_ _
  go_wp2_with fail
  go_end0
  exact ⟨rfl, hfin.out⟩
set_option maxRecDepth 100000 in
set_option maxHeartbeats 4000000 in
theorem into_edges (S : GS) (L : UL) (W : World) (x : ByteArray) (A b1 b2 : Nat) (h : Gs W S L) (hc : S.c ≤ 400000) (hx : x.size ≤ 1000) (cb1 : W.cell? ⟨b1, 0, none⟩ = some (.pointer (some ⟨S.gb, 0, none⟩))) (cb2 : W.cell? ⟨b2, 0, none⟩ = some (.string x)) (tk : Tk A (.slice none 0 0) W []) (hb : ∀ ys : List Ed, ys.Nodup → (∀ e, e ∈ ys ↔ bw (kL L) x e ≠ 0) → ys.length ≤ 499) :
    Calls Tryd.prog 36 #[.func (.func 25) #[] #[.pointer (some ⟨A, 0, none⟩)], .pointer (some ⟨b1, 0, none⟩), .pointer (some ⟨b2, 0, none⟩)] W fun e V => e = .returned (.tuple #[]) ∧ ∃ v' ys, Tk A v' V ys ∧ Mv (fun k => k = A) W V ∧ (∀ k, nbk v' = some k → W.heap.size ≤ k) ∧ ys.Nodup ∧ ys.Pairwise (fun a b => ¬ ltE b a) ∧ (∀ e, e ∈ ys ↔ bw (kL L) x e ≠ 0) := by
  obtain ⟨gb, hgb⟩ : ∃ gb, S.gb = gb := ⟨_, rfl⟩
  obtain ⟨eb, heb⟩ : ∃ eb, S.eb2 = eb := ⟨_, rfl⟩
  have c1 := h.ed.c2
  rw [hgb] at cb1 c1
  rw [heb] at c1
  have hS : W.drew.cell? ⟨b1, 0, none⟩ = some (.pointer (some ⟨gb, 0, none⟩)) ∧ W.drew.cell? ⟨b2, 0, none⟩ = some (.string x) ∧ W.drew.cell? ⟨gb, 2, none⟩ = some (.map (some eb)) := ⟨cb1, cb2, c1⟩
  have hSo := sorted_any ((h.below (Below.refl _ _).drew).ed.e2) hc x hx
  rw [heb] at hSo
  have hbH := hidP hb
  have lA := tk.cl.lt
  have tkH : Hid (Tk A (.slice none 0 0) W.drew []) := ⟨tk.cl.mv (E := fun _ => False) (Mv.drew _ _) (fun q => q), .inl ⟨rfl, rfl⟩, tk.ne⟩
  have hrowH : Hid (∀ e V ys sb vv, Sd S.c W.drew e V (bw (kL L) x) ys sb vv → Calls Tryd.prog 57 #[.func (.func 25) #[] #[.pointer (some ⟨A, 0, none⟩)], .pointer (some ⟨sb, 0, none⟩)] V fun e V => e = .returned (.tuple #[]) ∧ Hid (∃ v' ys, Tk A v' V ys ∧ Mv (fun k => k = A) W V ∧ (∀ k, nbk v' = some k → W.heap.size ≤ k) ∧ ys.Nodup ∧ ys.Pairwise (fun a b => ¬ ltE b a) ∧ (∀ e, e ∈ ys ↔ bw (kL L) x e ≠ 0))) := by
    intro e V ys sb vv sd
    have hsb := sd.sb
    have hbz := sd.be.size
    have eD : W.drew.heap.size = W.heap.size := rfl
    have mD : Mv (fun _ => False) W.drew V := Mv.below sd.be
    refine (into_row ys A sb vv V sd.c sd.sv (hbH.out ys sd.nd sd.mem) ⟨tkH.out.cl.mv mD (fun q => q), .inl ⟨rfl, rfl⟩, tkH.out.ne⟩ (by omega) (fun q => by have := sd.fr A q; omega)).mono ?_
    rintro e2 V2 ⟨rfl, v', t, m, fr⟩
    exact ⟨rfl, v', ys, t, ((Mv.drew _ _).trans' (Mv.below sd.be)).trans' m, fun k hk => by have := fr k hk; omega, sd.nd, sd.so, sd.mem⟩
  clear cb1 cb2 c1 tk h hb
  go_enter Tryd.func36, Tryd.ntmps36
  go_wp2_with fail
  refine Zs.region (S := fun W => (W.cell? ⟨b1, 0, none⟩ = some (.pointer (some ⟨gb, 0, none⟩)) ∧ W.cell? ⟨b2, 0, none⟩ = some (.string x) ∧ W.cell? ⟨gb, 2, none⟩ = some (.map (some eb)))) 7 (by kernel_rfl) ?_
  refine Zs.takeC (i := 0) (oi := ⟨some 4, _, _, _, _, _⟩) (v := ?t0) 10 rfl (by kernel_rfl) (by kernel_rfl) (by kernel_rfl) (by decide) (by kernel_rfl) (by kernel_rfl) (by kernel_rfl) (fun _ _ _ h => h) (Or.inl ⟨by rfl, ?hy0⟩) hS ?_
  case hy0 => (intro w hSw; (try dsimp only at hSw); go_simp; try with_reducible rfl)
  simp only [Act.put, List.setIfInBounds_toArray, List.set_cons_zero, List.set_cons_succ]
  refine Zs.pure (i := 1) (oi := ⟨some 5, _, _, _, _, _⟩) (v := ?v1) rfl (by kernel_rfl) (by kernel_rfl) (by kernel_rfl) (by decide) (fun _ _ _ h => h) (Or.inl ⟨by rfl, ?hy1⟩) hS ?_
  case hy1 => (intro w hSw; (try dsimp only at hSw); go_simp; try with_reducible rfl)
  simp only [Act.put, List.setIfInBounds_toArray, List.set_cons_zero, List.set_cons_succ]
  refine Zs.pure (i := 2) (oi := ⟨some 6, _, _, _, _, _⟩) (v := ?v2) rfl (by kernel_rfl) (by kernel_rfl) (by kernel_rfl) (by decide) (fun _ _ _ h => h) (Or.inl ⟨by rfl, ?hy2⟩) hS ?_
  case hy2 => (intro w hSw; (try dsimp only at hSw); go_simp; try with_reducible rfl)
  simp only [Act.put, List.setIfInBounds_toArray, List.set_cons_zero, List.set_cons_succ]
  refine Zs.takeC (i := 3) (oi := ⟨some 7, _, _, _, _, _⟩) (v := ?t3) 10 rfl (by kernel_rfl) (by kernel_rfl) (by kernel_rfl) (by decide) (by kernel_rfl) (by kernel_rfl) (by kernel_rfl) (fun _ _ _ h => h) (Or.inl ⟨by rfl, ?hy3⟩) hS ?_
  case hy3 => (intro w hSw; (try dsimp only at hSw); go_simp; try with_reducible rfl)
  simp only [Act.put, List.setIfInBounds_toArray, List.set_cons_zero, List.set_cons_succ]
  refine Zs.takeC (i := 4) (oi := ⟨some 8, _, _, _, _, _⟩) (v := ?t4) 10 rfl (by kernel_rfl) (by kernel_rfl) (by kernel_rfl) (by decide) (by kernel_rfl) (by kernel_rfl) (by kernel_rfl) (fun _ _ _ h => h) (Or.inl ⟨by rfl, ?hy4⟩) hS ?_
  case hy4 => (intro w hSw; (try dsimp only at hSw); go_simp; try with_reducible rfl)
  simp only [Act.put, List.setIfInBounds_toArray, List.set_cons_zero, List.set_cons_succ]
  refine Zs.pure (i := 6) (oi := ⟨some 10, _, _, _, _, _⟩) (v := ?v6) rfl (by kernel_rfl) (by kernel_rfl) (by kernel_rfl) (by decide) (fun _ _ _ h => h) (Or.inl ⟨by rfl, ?hy6⟩) hS ?_
  case hy6 => (intro w hSw; (try dsimp only at hSw); go_simp; try with_reducible rfl)
  simp only [Act.put, List.setIfInBounds_toArray, List.set_cons_zero, List.set_cons_succ]
  refine Zs.one (i := 5) (oi := ⟨some 9, _, _, _, _, _⟩) (by kernel_rfl) rfl (fun K hK => ?_)
  go_simp
  refine hSo.mono ?_
  rintro e V ⟨ys, sb, sv, sd⟩
  have hSV : V.cell? ⟨b1, 0, none⟩ = some (.pointer (some ⟨gb, 0, none⟩)) ∧ V.cell? ⟨b2, 0, none⟩ = some (.string x) ∧ V.cell? ⟨gb, 2, none⟩ = some (.map (some eb)) := ⟨bcell sd.be (cell_lt hS.1) hS.1, bcell sd.be (cell_lt hS.2.1) hS.2.1, bcell sd.be (cell_lt hS.2.2) hS.2.2⟩
  have hR := hrowH.out e V ys sb sv sd
  obtain rfl := sd.ret
  clear sd hS hrowH hSo
  go_wp2_with fail
  refine hK.out _ _ (fun _ => hSV) ?_
  clear hK K
  try simp only [Act.put, List.setIfInBounds_toArray, List.set_cons_zero, List.set_cons_succ]
  refine Zs.one (i := 7) (oi := ⟨some 11, _, _, _, _, _⟩) (by kernel_rfl) rfl (fun K hK => ?_)
  go_simp
  refine hR.mono ?_
  rintro e V2 ⟨rfl, hfin⟩
  clear hR
  go_wp2_with fail
  refine hK.out _ _ (fun q => absurd q (by decide)) ?_
  clear hK K
  try simp only [Act.put, List.setIfInBounds_toArray, List.set_cons_zero, List.set_cons_succ]
  refine Zs.done (by kernel_rfl) ?_ _
  go_wp2_with fail
  go_end0
  exact ⟨rfl, hfin.out⟩
end Go.Proofs.YtcfclknfnadgcaaDoor
