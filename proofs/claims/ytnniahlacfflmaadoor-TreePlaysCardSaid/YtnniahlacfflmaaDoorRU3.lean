/- TreePlays: the code's All with the law's closure. -/
import Derived.Test.YtnniahlacfflmaaDoorRU2
import Derived.Test.YtnniahlacfflmaaDoorShelfT
import Derived.Sort.KeysCollected
namespace Go.Proofs.YtnniahlacfflmaaDoor
open Go.RowKit Go.Shelf Go.Lib Go.Sort Go.Maps
attribute [local go_sem] Oper.semAt_some
theorem keys_tree {w : World} {b m : Nat} {D : DataW Value} {P : Pl} (h : w.ownsMap Tryd.prog 9 heldElem b m D) (v : Vw eS D (hf P)) (hn : srt P.ks) : (P.ks.map byt).Perm (strKeys D) := by
  obtain ⟨es, hD, hpw, _⟩ := h.entries lawS
  obtain ⟨es', hD', hko⟩ := h.keysOf
  obtain rfl : es = es' := by rw [hD] at hD'; simpa using hD'
  subst hD
  refine perm_strKeys hpw (fun p hp => by obtain ⟨v, hv⟩ := hko p hp; obtain ⟨x, _, hx, _⟩ := Maps.keyOf_str Tryd.underlying9 hv; exact ⟨x, hx⟩) ?_ (fun x => ?_)
  · refine List.pairwise_map.2 (hn.imp (fun {a b} q e => ?_))
    rw [sLt_iff, e] at q
    exact absurd q (List.lt_irrefl _)
  · have := v.has ⟨x.toArray⟩
    unfold eS at this
    rw [show (⟨x.toArray⟩ : ByteArray).data.toList = x from rfl] at this
    rw [this, hf_some]
    constructor
    · intro q
      obtain ⟨s, hs, rfl⟩ := List.mem_map.1 q
      exact inS_iff.2 hs
    · intro q
      exact List.mem_map.2 ⟨⟨x.toArray⟩, inS_iff.1 q, rfl⟩
theorem sort_names {ns : List ByteArray} {ss : List (List UInt8)} (hs : ns.Pairwise fun a b => sLt a b = true) (hp : ss.Perm (ns.map byt)) : ss.mergeSort (fun x y => decide (x ≤ y)) = ns.map byt := by
  rw [mergeSort_of_perm hp]
  refine List.mergeSort_of_pairwise ?_
  refine List.pairwise_map.2 (hs.imp (fun {a b} q => ?_))
  rw [sLt_iff] at q
  simp only [leB, decide_eq_true_eq]
  exact List.le_of_lt q
theorem nm_row {W : World} {base : Nat} {v : Value} {ns : List ByteArray} (h : W.ownsRow base 9 1 v ns.length ((ns.map byt).map encStr)) : ∃ a gk cap, v = .slice a ns.length cap ∧ (0 < ns.length → a = some ⟨gk, 0, none⟩ ∧ base ≤ gk ∧ ns.length ≤ cap) ∧ ∀ (k : Nat) (x : ByteArray), ns[k]? = some x → W.cell? ⟨gk, k, none⟩ = some (.string x) := by
  rcases h.2 with ⟨rfl, h0⟩ | ⟨g, cap, cur, rfl, hb, _, hcap, _⟩
  · refine ⟨none, 0, 0, by rw [h0], fun q => by omega, fun k x hx => ?_⟩
    have := (List.getElem?_eq_some_iff.1 hx).1
    omega
  · refine ⟨_, g, _, rfl, fun _ => ⟨rfl, hb, hcap⟩, fun k x hx => ?_⟩
    have := h.cells (g := g) rfl k (encStr (byt x)) (by rw [List.getElem?_map, List.getElem?_map, hx]; rfl)
    rw [Addr.add_lit, Nat.zero_add] at this
    exact this
set_option maxRecDepth 100000 in
set_option maxHeartbeats 1000000 in
theorem allq_any (b : Nat) (w : World) : Calls Tryd.prog 26 #[.pointer (some ⟨b, 0, none⟩)] w fun e w' => e = .returned (.func (.func 39) #[] #[.pointer (some ⟨w.heap.size, 0, none⟩)]) ∧ w' = w.alloc (.cells #[.pointer (some ⟨b, 0, none⟩)] 24) := by
  go_enter Tryd.func26, Tryd.ntmps26
  go_wp2_with fail
  go_ret
  exact ⟨rfl, rfl⟩
set_option maxRecDepth 100000 in
set_option maxHeartbeats 8000000 in
theorem allt_any {W : World} {S : St} {rb : Nat} {E : Nat → Prop} {R : Rf} {O A C D pt : Nat} (ts : Ts W S) (h : Rt W rb E R) (a : Ag S.p R) (hw : Wf S.p) (hc : S.c ≤ 900000) (hl : S.p.ks.length ≤ 1000) (hst : R.st.length ≤ 100000) (hsz : ∀ x ∈ S.p.ks, x.size ≤ 1000) (cT : W.cell? ⟨pt, 0, none⟩ = some (.pointer (some ⟨S.bt, 0, none⟩))) (cO : W.cell? ⟨O, 0, none⟩ = some (.bool true)) (fO : W.frozen? ⟨O, 0, none⟩ = false) (cA : W.cell? ⟨A, 0, none⟩ = some (.int .i64 0)) (fA : W.frozen? ⟨A, 0, none⟩ = false) (cC : W.cell? ⟨C, 0, none⟩ = some (.pointer (some ⟨rb, 0, none⟩))) (cD : W.cell? ⟨D, 0, none⟩ = some (.pointer (some ⟨S.bt, 0, none⟩))) (hAO : A ≠ O) (nS : ∀ k, hasB S k → k ≠ O ∧ k ≠ A) (nR : ∀ k, E k → k ≠ O ∧ k ≠ A) (nC : C ≠ O ∧ C ≠ A) (nD : D ≠ O ∧ D ≠ A) (nP : pt ≠ O ∧ pt ≠ A) :
    Calls Tryd.prog 39 #[.func (.func 27) #[] #[.pointer (some ⟨O, 0, none⟩), .pointer (some ⟨A, 0, none⟩), .pointer (some ⟨C, 0, none⟩), .pointer (some ⟨D, 0, none⟩)], .pointer (some ⟨pt, 0, none⟩)] W fun e V => e = .returned (.tuple #[]) ∧ Mv (fun j => j = O ∨ j = A) W V ∧ V.cell? ⟨O, 0, none⟩ = some (.bool true) ∧ V.cell? ⟨A, 0, none⟩ = some (.int .i64 S.p.ks.length) := by
  obtain ⟨n, hn⟩ : ∃ n, S.p.ks.length = n := ⟨_, rfl⟩
  obtain ⟨mm, hmm, DD, d1, d2, d3⟩ := ts.hm
  have hp := keys_tree d1 d3 hw.srt
  have hso := Tryd.slices_SortedS S.bh _ DD heldElem W d1 (by rw [d2]; unfold maxLen; omega) (by rw [d2]; omega)
  have hpH := hidP hp
  have hsoH := hidP hso
  have hsrt := hidP hw.srt
  have tsH := hidP ts
  have hRH := hidP h
  have c0 := ts.c0
  have hnH := hidP hn
  rw [hn] at hl ⊢
  have hnI : (n : Int) ≤ 1000 := by omega
  have hcl : Hid (∀ V k p, Mv (fun j => j = O ∨ j = A) W V → S.p.ks[k]? = some p → V.cell? ⟨O, 0, none⟩ = some (.bool true) → V.frozen? ⟨O, 0, none⟩ = false → V.cell? ⟨A, 0, none⟩ = some (.int .i64 (k : Nat)) → V.frozen? ⟨A, 0, none⟩ = false → _) := fun V k p m hk q1 q2 q3 q4 =>
    clos_any (C := C) (D := D) (ts.mv m (fun j hj f => by have := nS j hj; rcases f with f | f <;> omega)) (h.mv m (fun j hj f => by have := nR j hj; rcases f with f | f <;> omega)) a (by rw [a.l, List.length_map]; omega) hst (hsz p (List.mem_of_getElem? hk)) hk q1 q2 q3 q4 (m.cell (a := ⟨C, 0, none⟩) (fun f => by rcases f with f | f; exact nC.1 f; exact nC.2 f) cC) (m.cell (a := ⟨D, 0, none⟩) (fun f => by rcases f with f | f; exact nD.1 f; exact nD.2 f) cD) hAO
  have hlk : Hid (∀ V p, Mv (fun j => j = O ∨ j = A) W V → p ∈ S.p.ks → V.cell? ⟨pt, 0, none⟩ = some (.pointer (some ⟨S.bt, 0, none⟩)) ∧ V.cell? ⟨S.bt, 0, none⟩ = some (.map (some S.bh)) ∧ (Instr.lookup 62 (.map (some S.bh)) (.string p) false).run Tryd.prog V = .ok (ndV (S.p.nd p)) V) := fun V p m hp => by
    have tV := ts.mv m (fun j hj f => by have := nS j hj; rcases f with f | f <;> omega)
    exact ⟨m.cell (a := ⟨pt, 0, none⟩) (fun f => by rcases f with f | f; exact nP.1 f; exact nP.2 f) cT, tV.c0, tV.look1 (hsz p hp)⟩
  have cells : Hid (W.cell? ⟨O, 0, none⟩ = some (.bool true) ∧ W.frozen? ⟨O, 0, none⟩ = false ∧ W.cell? ⟨A, 0, none⟩ = some (.int .i64 0) ∧ W.frozen? ⟨A, 0, none⟩ = false) := ⟨cO, fO, cA, fA⟩
  clear ts h a hw hc hst hsz cO fO cA fA cC cD nS nR nC nD nP hmm d1 d2 d3 hp hso hn
  go_enter Tryd.func39, Tryd.ntmps39
  go_wp2_with fail
  refine (Tryd.maps_KeysS _ _).mono ?_
  rintro e w2 ⟨rfl, rfl⟩
  go_wp2_with fail
  refine hsoH.out.mono ?_
  rintro e w3 ⟨vk, ss, rfl, hps, hrow, _, hb3⟩
  have hperm := hps.trans hpH.out.symm
  rw [sort_names hsrt.out hperm, hperm.length_eq, List.length_map] at hrow
  obtain ⟨aa, gk, cap, rfl, hak, hck⟩ := nm_row hrow
  rw [hnH.out]
  rw [hnH.out] at hak
  have m13 : Mv (fun j => j = O ∨ j = A) W w3 := (Mv.alloc _ _ _).trans' (Mv.below hb3)
  have bl3 : Below W.heap.size W w3 := ((Below.refl _ _).alloc (Nat.le_refl _) _).trans (hb3.mono (by simp))
  have hgk : Hid (0 < n → aa = some ⟨gk, 0, none⟩ ∧ W.heap.size ≤ gk ∧ n ≤ cap) := fun h0 => by obtain ⟨z1, z2, z3⟩ := hak h0; simp at z2; exact ⟨z1, by omega, z3⟩
  have hI0 : Hid (Mv (fun j => j = O ∨ j = A) W w3 ∧ (∀ k p, S.p.ks[k]? = some p → w3.cell? ⟨gk, k, none⟩ = some (.string p)) ∧ w3.cell? ⟨O, 0, none⟩ = some (.bool true) ∧ w3.frozen? ⟨O, 0, none⟩ = false ∧ w3.cell? ⟨A, 0, none⟩ = some (.int .i64 ((0 : Nat) : Int)) ∧ w3.frozen? ⟨A, 0, none⟩ = false) := by
    obtain ⟨z1, z2, z3, z4⟩ := cells.out
    exact ⟨m13, hck, bcell bl3 (cell_lt z1) z1, (bfroz bl3 (cell_lt z1)).trans z2, bcell bl3 (cell_lt z3) z3, (bfroz bl3 (cell_lt z3)).trans z4⟩
  have lOA : Hid (O < W.heap.size ∧ A < W.heap.size) := ⟨cell_lt cells.out.1, cell_lt cells.out.2.2.1⟩
  clear hps hrow hb3 hck hak hsoH hpH m13 hperm c0 bl3 cT
  go_wp2_with fail
  go_loopw [12] (fun i wr => ∃ (k : Nat), k ≤ n ∧ i = .int .i64 k ∧ Hid (Mv (fun j => j = O ∨ j = A) W wr ∧ (∀ k p, S.p.ks[k]? = some p → wr.cell? ⟨gk, k, none⟩ = some (.string p)) ∧ wr.cell? ⟨O, 0, none⟩ = some (.bool true) ∧ wr.frozen? ⟨O, 0, none⟩ = false ∧ wr.cell? ⟨A, 0, none⟩ = some (.int .i64 (k : Nat)) ∧ wr.frozen? ⟨A, 0, none⟩ = false)) (fun i _ => n - (intOf i).toNat)
  case atStart => exact ⟨0, by omega, rfl, hI0⟩
  case round =>
    obtain ⟨k, hk, rfl, hI⟩ := hrel
    clear hI0
    by_cases hlt : k < n
    · obtain ⟨p, hp⟩ : ∃ p, S.p.ks[k]? = some p := ⟨_, List.getElem?_eq_getElem (by rw [hnH.out]; exact hlt)⟩
      obtain ⟨rfl, hgb, hcap⟩ := hgk.out (by omega)
      obtain ⟨m, hcs, q1, q2, q3, q4⟩ := hI.out
      have hcell := hcs k p hp
      have hkc : k < cap := by omega
      have hkI : (k : Int) < (n : Int) := by omega
      obtain ⟨k1, k2, hlk1⟩ := hlk.out wr p m (List.mem_of_getElem? hp)
      have hC := hcl.out wr k p m hp q1 q2 q3 q4
      obtain ⟨nd, hnd⟩ : ∃ nd, S.p.nd p = nd := ⟨_, rfl⟩
      rw [hnd] at hlk1 hC
      obtain ⟨nf, ni, nm, nw, nu⟩ := nd
      have hlk2 : (Instr.lookup 62 (.map (some S.bh)) (.string p) false).run Tryd.prog wr = .ok (.agg #[.bool nf, .int .i64 ni, .bool nm, .string nw, .int .i64 nu]) wr := hlk1
      have hfd : ∀ W : World, (Instr.field 61 (.agg #[.bool nf, .int .i64 ni, .bool nm, .string nw, .int .i64 nu]) 0).run Tryd.prog W = .ok (.bool nf) W := fun W => by kernel_rfl
      have hCH : Hid (Calls Tryd.prog 27 #[.string p, .bool nf, .pointer (some ⟨O, 0, none⟩), .pointer (some ⟨A, 0, none⟩), .pointer (some ⟨C, 0, none⟩), .pointer (some ⟨D, 0, none⟩)] wr fun e V => e = .returned (.bool true) ∧ Hid (Mv (fun j => j = O ∨ j = A) W V ∧ (∀ k p, S.p.ks[k]? = some p → V.cell? ⟨gk, k, none⟩ = some (.string p)) ∧ V.cell? ⟨O, 0, none⟩ = some (.bool true) ∧ V.frozen? ⟨O, 0, none⟩ = false ∧ V.cell? ⟨A, 0, none⟩ = some (.int .i64 ((k + 1 : Nat) : Int)) ∧ V.frozen? ⟨A, 0, none⟩ = false)) := by
        refine hC.mono ?_
        rintro e V ⟨rfl, mV, z1, z2, z3, z4⟩
        have := lOA.out
        exact ⟨rfl, m.trans' mV, fun k' p' hp' => mV.cell (a := ⟨gk, k', none⟩) (fun f => by have f' : gk = O ∨ gk = A := f; rcases f' with f' | f' <;> omega) (hcs k' p' hp'), z1, z2, z3, z4⟩
      clear hI m hcs q1 q2 q3 q4 hC hlk1 hnd hp hgb
      go_wp2_with fail
      refine hCH.out.mono ?_
      rintro e V ⟨rfl, hI2⟩
      clear hCH hlk2 hcell k1 k2
      go_wp2_with fail
      exact ⟨⟨k + 1, by omega, by go_num, hI2⟩, by simp [intOf]; omega⟩
    · obtain rfl : k = n := by omega
      have hkI : ¬ (k : Int) < (k : Int) := by omega
      have hkd : decide ((k : Int) < (k : Int)) = false := decide_eq_false hkI
      have fin := hidP (And.intro hI.out.1 (And.intro hI.out.2.2.1 hI.out.2.2.2.2.1))
      clear hI
      go_wp2_with fail
      go_end0
      exact ⟨rfl, fin.out⟩
end Go.Proofs.YtnniahlacfflmaaDoor
