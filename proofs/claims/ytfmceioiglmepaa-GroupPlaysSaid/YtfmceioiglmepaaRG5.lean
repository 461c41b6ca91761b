/- The reference's Emptied. -/
import Derived.Test.YtfmceioiglmepaaRG4
namespace Go.Proofs.Ytfmceioiglmepaa
open Go.RowKit Go.Shelf Go.Lib
theorem ns_tail {w : World} {g o cap o' : Nat} {x : ByteArray} {r : List ByteArray} (h : NS w (.slice (some ⟨g, o, none⟩) (r.length + 1) cap) (x :: r)) (ho : cap - 1 ≠ 0 → o' = o + 1) : NS w (.slice (some ⟨g, o', none⟩) r.length (cap - 1)) r := by
  rcases h with ⟨e, _⟩ | ⟨g2, o2, cap2, e, hg, h1, h2, h3, h4⟩
  · cases e
  · injection e with e1 e2 e3
    injection e1 with e1
    injection e1 with a b c
    subst a
    subst b
    subst e3
    simp only [List.length_cons] at h1
    refine .inr ⟨g, o', cap - 1, rfl, hg, by omega, by omega, fun j y hy => ?_, fun j hj => ?_⟩
    · have hj : j < r.length := (List.getElem?_eq_some_iff.1 hy).1
      have := h3 (j + 1) y (by simpa using hy)
      rw [ho (by omega), show o + 1 + j = o + (j + 1) by omega]
      exact this
    · rw [ho (by omega), show o + 1 + j = o + (j + 1) by omega]
      exact h4 (j + 1) (by omega)
def empRR (l : List RG) : List ByteArray → Option ByteArray × List ByteArray
  | [] => (none, [])
  | x :: r => if thereR l x = true ∧ mOfR l x = [] then (some x, r) else empRR l r
set_option maxRecDepth 100000 in
set_option maxHeartbeats 400000 in
theorem remptied_any (R : Rt) (w : World) (h : Rs w R) (hl : R.l.length ≤ 1000) (hn : R.ns.length ≤ 1000) :
    Calls Try.prog 17 #[.pointer (some ⟨R.b, 0, none⟩)] w fun e w' => e = .returned (.tuple #[.string (ifS (empRR R.l R.ns).1), .bool (empRR R.l R.ns).1.isSome]) ∧ ∃ nv, RGoes R w { R with nv := nv, ns := (empRR R.l R.ns).2 } w' := by
  obtain ⟨E, hE⟩ : ∃ E, empRR R.l R.ns = E := ⟨_, rfl⟩
  rw [hE]
  have hEH := hidP hE
  have hH := hidP h
  obtain ⟨bt, hbt⟩ : ∃ bt, R.b = bt := ⟨_, rfl⟩
  rw [hbt]
  have hbtH := hidP hbt
  clear hE h hbt
  go_enter Try.func17, Try.ntmps17
  go_wp2_with fail
  go_loopw [4] (fun _ wr => ∃ (nv : Value) (ns : List ByteArray), Hid (RGoes R w { R with nv := nv, ns := ns } wr ∧ empRR R.l ns = E ∧ ns.length ≤ 1000)) (fun _ wr => lenNv (wr.cell? ⟨bt, 1, none⟩))
  case atStart => exact ⟨R.nv, R.ns, RGoes.below hH.out (Below.refl _ _), hEH.out, hn⟩
  case round =>
    obtain ⟨nv, ns, hI⟩ := hrel
    have c1 := hI.out.1.r.c1
    simp only at c1
    rw [hbtH.out] at c1
    cases ns with
    | nil =>
      obtain ⟨p, n, cp, hv⟩ := hI.out.1.r.nts.shape
      have hn0 : n = 0 := by
        have := hI.out.1.r.nts.len
        simp only at this hv
        rw [hv] at this
        exact this
      simp only at hv
      subst hn0
      rw [hv] at c1
      have hR0 : Hid (E = (none, [])) := hI.out.2.1.symm
      have fin : Hid (RGoes R w { R with nv := nv, ns := E.2 } wr) := by
        show RGoes _ _ _ _
        rw [hR0.out]; exact hI.out.1
      clear hI hv hEH hH
      go_wp2_with fail
      refine bodyPost_ret (v := .tuple #[.string ⟨#[]⟩, .bool false]) (by simp [results, Try.results17, go_sem]) rfl ?_
      exact ⟨by rw [hR0.out]; rfl, nv, by rw [← hbtH.out]; exact fin.out⟩
    | cons x r =>
      have hns := hI.out.1.r.nts
      simp only at hns
      obtain ⟨g, o, cap, hv, hg, hcap, hmx, hcells, hsp⟩ := hns.some (by simp)
      subst hv
      simp only [List.length_cons] at hns hcap c1
      have k0 := hcells 0 x rfl
      simp only [Nat.add_zero] at k0
      have f1 := hI.out.1.r.f1
      simp only at f1
      rw [hbtH.out] at f1
      have hlr : r.length ≤ 999 := by have := hI.out.2.2; simp at this; omega
      have hnx : Hid (∀ o', (cap - 1 ≠ 0 → o' = o + 1) → RGoes R w { R with nv := .slice (some ⟨g, o', none⟩) r.length (cap - 1), ns := r } (wr.setCell ⟨bt, 1, none⟩ (.slice (some ⟨g, o', none⟩) r.length (cap - 1)))) := fun o' ho' => by
        have := hI.out.1.trans (hI.out.1.r.turnN (nv := .slice (some ⟨g, o', none⟩) r.length (cap - 1)) (ns := r) (Mv.refl _ _) (ns_tail hns ho') (fun k hk => .inl hk))
        rw [← hbtH.out]
        exact this
      have hR1 : Hid ((if thereR R.l x = true ∧ mOfR R.l x = [] then (some x, r) else empRR R.l r) = E) := hI.out.2.1
      have hc1 : Hid (wr.cell? ⟨bt, 1, none⟩ = some (.slice (some ⟨g, o, none⟩) (r.length + 1) cap)) := c1
      clear hI hns hcells hsp hmx hg
      rcases Nat.lt_or_ge 1 cap with hc1' | hc1'
      · have hG := hnx.out (o + 1) (fun _ => rfl)
        clear hnx
        obtain ⟨W2, hW2⟩ : ∃ W2, wr.setCell ⟨bt, 1, none⟩ (.slice (some ⟨g, o + 1, none⟩) r.length (cap - 1)) = W2 := ⟨_, rfl⟩
        rw [hW2] at hG
        have hA := rat_any _ x W2 hG.r hl
        simp only at hA
        rw [hbtH.out] at hA
        have hAH := hidP hA
        have hGH := hidP hG
        have hlen2 : Hid (∀ W3, Below W2.heap.size W2 W3 → lenNv (W3.cell? ⟨bt, 1, none⟩) = r.length) := fun W3 hb => by
          have h1 : W2.cell? ⟨bt, 1, none⟩ = some (.slice (some ⟨g, o + 1, none⟩) r.length (cap - 1)) := by rw [← hW2]; exact World.cell?_setCell_same' _ _ _ (by rw [hc1.out]; rfl)
          rw [(Mv.below (E := fun _ => False) hb).cell (fun h => h) h1]
          exact rfl
        clear hA hG
        cases ht : thereR R.l x with
        | false =>
          rw [ht] at hAH
          have hR2 : Hid (empRR R.l r = E) := by show _ = _; have := hR1.out; rw [ht] at this; simpa using this
          clear hR1 ht
          go_wp2_with (rw [hW2])
          refine hAH.out.mono ?_
          rintro e W3 ⟨rfl, hb3⟩
          have G3 := hidP (hGH.out.trans (RGoes.below hGH.out.r hb3))
          have hl3 := hidP (hlen2.out W3 hb3)
          clear hAH hb3 hGH hlen2
          go_wp2_with fail
          refine ⟨⟨_, _, G3.out, hR2.out, by omega⟩, ?_⟩
          rw [hl3.out, hc1.out]
          exact Nat.lt_succ_self _
        | true =>
          rw [ht] at hAH
          obtain ⟨y, hy, hyn⟩ := thereR_some ht
          have hmy : mOfR R.l x = y.ps := by unfold mOfR; rw [ht, hy]; rfl
          have hil : atP R.l x < R.l.length := (List.getElem?_eq_some_iff.1 hy).1
          obtain ⟨i, hi⟩ : ∃ i, atP R.l x = i := ⟨_, rfl⟩
          rw [hi] at hAH hy hil
          obtain ⟨n, hnn⟩ : ∃ n, R.l.length = n := ⟨_, rfl⟩
          have hiI : (i : Int) < (n : Int) := by omega
          have hyH := hidP hy
          have hnnH := hidP hnn
          have hR2 : Hid ((if y.ps = [] then (some x, r) else empRR R.l r) = E) := by show _ = _; have := hR1.out; rw [ht, hmy] at this; simpa using this
          clear hR1 ht hy hyn hmy hi hnn hil
          go_wp2_with (rw [hW2])
          refine hAH.out.mono ?_
          rintro e W3 ⟨rfl, hb3⟩
          have G3 := hidP (hGH.out.trans (RGoes.below hGH.out.r hb3))
          have hl3 := hidP (hlen2.out W3 hb3)
          have r3 := G3.out.r
          obtain ⟨g3, cap3, e1, _, e3⟩ := r3.at (i := i) (x := y) hyH.out
          have c03 := r3.c0
          simp only at c03 e1
          rw [hbtH.out, e1, hnnH.out] at c03
          obtain ⟨q, d, hv, _⟩ := (r3.ps y (List.mem_of_getElem? hyH.out)).1
          rw [hv] at e3
          obtain ⟨m, hm⟩ : ∃ m, y.ps.length = m := ⟨_, rfl⟩
          rw [hm] at e3
          have hmH := hidP hm
          clear hAH hb3 hGH hlen2 r3 e1 hv hm
          by_cases hm0 : m = 0
          · subst hm0
            have hR3 : Hid (E = (some x, r)) := by have := hR2.out; rw [if_pos (List.eq_nil_of_length_eq_zero hmH.out)] at this; exact this.symm
            clear hR2
            go_wp2_with fail
            refine bodyPost_ret (v := .tuple #[.string x, .bool true]) (by simp [results, Try.results17, go_sem]) rfl ?_
            exact ⟨by rw [hR3.out]; rfl, .slice (some ⟨g, o + 1, none⟩) r.length (cap - 1), by rw [hR3.out, ← hbtH.out]; exact G3.out⟩
          · have hmI : decide ((m : Int) = 0) = false := by simp; omega
            have hR3 : Hid (empRR R.l r = E) := by have := hR2.out; rw [if_neg (fun e => hm0 (by rw [← hmH.out, e]; rfl))] at this; exact this
            clear hR2
            go_wp2_with fail
            refine ⟨⟨_, _, G3.out, hR3.out, by omega⟩, ?_⟩
            rw [hl3.out, hc1.out]
            exact Nat.lt_succ_self _
      · have hcap1 : cap = 1 := by omega
        subst hcap1
        have hr0 : r = [] := List.eq_nil_of_length_eq_zero (by omega)
        subst hr0
        have hG := hnx.out o (fun h => absurd rfl h)
        simp only [List.length_nil] at hG
        clear hnx
        obtain ⟨W2, hW2⟩ : ∃ W2, wr.setCell ⟨bt, 1, none⟩ (.slice (some ⟨g, o, none⟩) 0 0) = W2 := ⟨_, rfl⟩
        rw [hW2] at hG
        have hA := rat_any _ x W2 hG.r hl
        simp only at hA
        rw [hbtH.out] at hA
        have hAH := hidP hA
        have hGH := hidP hG
        have hlen2 : Hid (∀ W3, Below W2.heap.size W2 W3 → lenNv (W3.cell? ⟨bt, 1, none⟩) = 0) := fun W3 hb => by
          have h1 : W2.cell? ⟨bt, 1, none⟩ = some (.slice (some ⟨g, o, none⟩) 0 0) := by rw [← hW2]; exact World.cell?_setCell_same' _ _ _ (by rw [hc1.out]; rfl)
          rw [(Mv.below (E := fun _ => False) hb).cell (fun h => h) h1]
          exact rfl
        clear hA hG
        cases ht : thereR R.l x with
        | false =>
          rw [ht] at hAH
          have hR2 : Hid (empRR R.l [] = E) := by show _ = _; have := hR1.out; rw [ht] at this; simpa using this
          clear hR1 ht
          go_wp2_with (rw [hW2])
          refine hAH.out.mono ?_
          rintro e W3 ⟨rfl, hb3⟩
          have G3 := hidP (hGH.out.trans (RGoes.below hGH.out.r hb3))
          have hl3 := hidP (hlen2.out W3 hb3)
          clear hAH hb3 hGH hlen2
          go_wp2_with fail
          refine ⟨⟨_, _, G3.out, hR2.out, by omega⟩, ?_⟩
          rw [hl3.out, hc1.out]
          exact Nat.zero_lt_one
        | true =>
          rw [ht] at hAH
          obtain ⟨y, hy, hyn⟩ := thereR_some ht
          have hmy : mOfR R.l x = y.ps := by unfold mOfR; rw [ht, hy]; rfl
          have hil : atP R.l x < R.l.length := (List.getElem?_eq_some_iff.1 hy).1
          obtain ⟨i, hi⟩ : ∃ i, atP R.l x = i := ⟨_, rfl⟩
          rw [hi] at hAH hy hil
          obtain ⟨n, hnn⟩ : ∃ n, R.l.length = n := ⟨_, rfl⟩
          have hiI : (i : Int) < (n : Int) := by omega
          have hyH := hidP hy
          have hnnH := hidP hnn
          have hR2 : Hid ((if y.ps = [] then (some x, []) else empRR R.l []) = E) := by show _ = _; have := hR1.out; rw [ht, hmy] at this; simpa using this
          clear hR1 ht hy hyn hmy hi hnn hil
          go_wp2_with (rw [hW2])
          refine hAH.out.mono ?_
          rintro e W3 ⟨rfl, hb3⟩
          have G3 := hidP (hGH.out.trans (RGoes.below hGH.out.r hb3))
          have hl3 := hidP (hlen2.out W3 hb3)
          have r3 := G3.out.r
          obtain ⟨g3, cap3, e1, _, e3⟩ := r3.at (i := i) (x := y) hyH.out
          have c03 := r3.c0
          simp only at c03 e1
          rw [hbtH.out, e1, hnnH.out] at c03
          obtain ⟨q, d, hv, _⟩ := (r3.ps y (List.mem_of_getElem? hyH.out)).1
          rw [hv] at e3
          obtain ⟨m, hm⟩ : ∃ m, y.ps.length = m := ⟨_, rfl⟩
          rw [hm] at e3
          have hmH := hidP hm
          clear hAH hb3 hGH hlen2 r3 e1 hv hm
          by_cases hm0 : m = 0
          · subst hm0
            have hR3 : Hid (E = (some x, [])) := by have := hR2.out; rw [if_pos (List.eq_nil_of_length_eq_zero hmH.out)] at this; exact this.symm
            clear hR2
            go_wp2_with fail
            refine bodyPost_ret (v := .tuple #[.string x, .bool true]) (by simp [results, Try.results17, go_sem]) rfl ?_
            exact ⟨by rw [hR3.out]; rfl, .slice (some ⟨g, o, none⟩) 0 0, by rw [hR3.out, ← hbtH.out]; exact G3.out⟩
          · have hmI : decide ((m : Int) = 0) = false := by simp; omega
            have hR3 : Hid (empRR R.l [] = E) := by have := hR2.out; rw [if_neg (fun e => hm0 (by rw [← hmH.out, e]; rfl))] at this; exact this
            clear hR2
            go_wp2_with fail
            refine ⟨⟨_, _, G3.out, hR3.out, by omega⟩, ?_⟩
            rw [hl3.out, hc1.out]
            exact Nat.zero_lt_one
end Go.Proofs.Ytfmceioiglmepaa
