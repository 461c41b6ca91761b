/- The contract of unitfile.Print. -/
import Derived.Test.YtmoafagemdnifaaDoorF10
import Derived.Test.YtmoafagemdnifaaDoorB0s
namespace Go.Proofs.YtmoafagemdnifaaDoor
open Go.RowKit Go.Shelf Lin
attribute [local go_sem] Oper.semAt_some
/-- A setting's line; a section's lines; all lines. -/
def oneL (x : St) : L := x.k.data.toList ++ [61] ++ x.v.data.toList ++ [10]
def secL (g : ByteArray × List St) : L := [91] ++ g.1.data.toList ++ [93, 10] ++ g.2.flatMap oneL
def prt (gs : Gs) : L := gs.flatMap secL
def PI (b : Nat) (T : L) (rest : Gs) (E : Nat → Prop) (W : World) : Prop := ∃ v x, ((∀ k, E k ↔ Ow b v k) ∧ Hid (x ++ prt rest = T)) ∧ Bld b v x W
theorem PI.ter (b B : Nat) (T : L) : Ter B (PI b T) := by
  refine ⟨?_, ?_⟩
  · rintro s E W V ⟨v, x, ⟨hE, h⟩, hb⟩ m
    exact ⟨v, x, ⟨hE, h⟩, hb.mv m (fun k hk h => h.1 ((hE k).2 hk))⟩
  · rintro s E W ⟨v, x, ⟨hE, h⟩, hb⟩ k hk
    exact hb.lo k ((hE k).1 hk)
theorem SlIs.twin {E : Nat → Prop} {A B : World} {l : Nat} {v : Value} {ls : List St} (h : SlIs E A v ls) (t : Twin l A B) (hl : ∃ r, A.heap[l]? = some (.loop r)) : SlIs E B v ls := by
  obtain ⟨a, c, hv, h1⟩ := h
  refine ⟨a, c, hv, fun h0 => ?_⟩
  obtain ⟨g, o, e1, e2, e3⟩ := h1 h0
  have hne : ¬ g = l := fun e => by
    have h2 := (e3 0 _ (List.getElem?_eq_getElem h0)).c0
    obtain ⟨r, hr⟩ := hl
    unfold World.cell? at h2
    rw [e, hr] at h2
    cases h2
  exact ⟨g, o, e1, e2, fun j x hj => (e3 j x hj).mv t.mv hne⟩
set_option maxHeartbeats 1000000 in
theorem parts_any (a : Option Addr) (n c : Nat) (w : World) : Calls Tryd.prog 29 #[.slice a n c] w fun e w' => e = .returned (.func (.func 42) #[] #[.pointer (some ⟨w.heap.size, 0, none⟩)]) ∧ w' = w.alloc (.cells #[.slice a n c] 23) := by
  go_enter Tryd.func29, Tryd.ntmps29
  go_wp2
  go_ret
  exact ⟨rfl, rfl⟩
theorem flat_ge : ∀ ls : List St, ls.length ≤ (ls.flatMap oneL).length
  | [] => by simp
  | x :: r => by
    have := flat_ge r
    simp only [List.flatMap_cons, List.length_append, List.length_cons, oneL, List.length_nil]; omega
theorem take_snocS {l : List St} {k : Nat} {x : St} (h : l[k]? = some x) : l.take (k + 1) = l.take k ++ [x] := by rw [List.take_add_one, h]; rfl
set_option maxRecDepth 100000 in
set_option maxHeartbeats 8000000 in
theorem print_any (v : Value) (l : List St) (w : World) (T : L) (hs : SlIs (fun _ => False) w v l) (hl : l.length ≤ 1000000) (hz : ∀ x ∈ l, x.s.size ≤ 1000000000) (hT : prt (groups l) = T) (hTl : T.length ≤ 3000000) :
    Calls Tryd.prog 14 #[.agg #[v]] w fun e w' => e = .returned (.string ⟨T.toArray⟩) ∧ Below w.heap.size w w' := by
  have hTH : Hid (prt (groups l) = T) := hT
  obtain ⟨a, c, rfl, hs1⟩ := hs
  have hsl0 : SlIs (fun _ => False) w (.slice a l.length c) l := ⟨a, c, rfl, hs1⟩
  obtain ⟨n, hn⟩ : ∃ n, l.length = n := ⟨_, rfl⟩
  rw [hn] at hsl0 ⊢
  have hN : Hid (l.length = n) := hn
  obtain ⟨W0, hW0⟩ : ∃ W0, (w.alloc (.cells #[.slice a n c] 25)).alloc (.cells #[.pointer none, .slice none 0 0] 77) = W0 := ⟨_, rfl⟩
  have hs0 : W0.heap.size = w.heap.size + 2 := by rw [← hW0]; simp
  have m0 : ∀ F : Nat → Prop, Mv F w W0 := fun F => by rw [← hW0]; exact (Mv.alloc _ _ _).trans' (Mv.alloc _ _ _)
  have hB0 : Bld (w.heap.size + 1) (.slice none 0 0) [] W0 := by
    have := Bld.new (w.alloc (.cells #[.slice a n c] 25))
    rw [hW0] at this
    simpa using this
  have q0 : W0.cell? ⟨w.heap.size, 0, none⟩ = some (.slice a n c) := by rw [← hW0]; exact (Mv.alloc (fun _ => False) _ _).cell (fun h => h) (cell_at rfl rfl)
  clear hT hs1 hn
  refine (callsIn_wide (n := 5)).1 ?_
  refine callsIn_of_wp_marks Tryd.func14 rfl trivial ?_ rfl
  simp only [Tryd.ntmps14, List.size_toArray, List.length_cons, List.length_nil, Nat.reduceAdd, Nat.reduceSub, Array.replicate_succ, Array.replicate_zero, List.push_toArray, List.append_toArray, List.nil_append, List.cons_append]
  gi_wp2_with (rw [hW0])
  clear hW0
  refine ⟨trivial, (callsIn_wide.2 (parts_any a n c W0)).mono ?_⟩
  rintro e W1 ⟨rfl, hW1⟩
  have m1 : ∀ F : Nat → Prop, Mv F W0 W1 := fun F => by rw [hW1]; exact Mv.alloc _ _ _
  have hs1 : W1.heap.size = w.heap.size + 3 := by rw [hW1]; simp [hs0]
  have cs1 : W1.cell? ⟨w.heap.size + 2, 0, none⟩ = some (.slice a n c) := by rw [hW1, ← hs0]; exact cell_at rfl rfl
  clear hW1
  obtain ⟨E, hE⟩ : ∃ E : Nat → Prop, ∀ k, E k ↔ Ow (w.heap.size + 1) (.slice none 0 0) k := ⟨_, fun _ => Iff.rfl⟩
  have nE : ∀ k, k ≠ w.heap.size + 1 → ¬ E k := fun k hk h => by
    rcases (hE k).1 h with q | q
    · exact hk q
    · simp [Value.ownBlock] at q
  have hslE : SlIs E W1 (.slice a n c) l := by
    obtain ⟨a', c', hv, h1⟩ := hsl0
    refine SlIs.mv (E := E) (W := w) ⟨a', c', hv, fun h0 => ?_⟩ ((m0 _).trans' (m1 _)) (Gr.refl _ _)
    obtain ⟨g, o, e1, _, e2⟩ := h1 h0
    have hgl : g < w.heap.size := cell_lt (e2 0 _ (List.getElem?_eq_getElem h0)).c0
    exact ⟨g, o, e1, nE _ (by omega), e2⟩
  have hrow := parts1_row l (w.heap.size + 2) (.slice a n c) E W1 cs1 (nE _ (by omega)) hslE hl hz
  have tI : Ter W1.heap.size (PI (w.heap.size + 1) T) := PI.ter _ _ _
  have h0I : PI (w.heap.size + 1) T (groups l) E W1 := ⟨_, [], ⟨hE, hTH⟩, hB0.mv (m1 (fun _ => False)) (fun _ _ h => h)⟩
  gi_wp2_with fail
  refine loop_outR (gf := 42) (lb := #[.pointer (some ⟨w.heap.size + 2, 0, none⟩)]) rfl (enters_of Tryd.func42 (by kernel_rfl) rfl) hrow GrpR.size GrpR.anti (PI (w.heap.size + 1) T) MX tI (MX.ter _) h0I ?round ?done ?stop
  case stop => rintro D c' E2 U _ _ _ _ _ h; exact h.elim
  case round =>
    rintro l1 hl1 ⟨nm, ls⟩ rest E2 U args hi ⟨sv, rfl, hsv⟩ hm hgr hEl hrec
    simp only at hsv
    obtain ⟨a2, c2, rfl, _⟩ := id hsv
    gi_wp2
    refine ⟨⟨Mv.refl _ _, trivial⟩, fun U2 tw => ?_⟩
    obtain ⟨hi2, hm2⟩ := tw.go tI hi (Mv.refl _ _) hm (Nat.le_refl _) (by omega) hEl
    have hsl2 := hsv.twin tw hrec
    obtain ⟨v, x, ⟨hE2, hx⟩, hB⟩ := hi2
    have hxl : x.length + (secL (nm, ls)).length ≤ 3000000 := by
      have := congrArg List.length hx.out
      simp only [prt, List.flatMap_cons, List.length_append] at this
      omega
    have hsecl : (secL (nm, ls)).length = nm.size + 3 + (ls.flatMap oneL).length := by
      simp only [secL, List.length_append, List.length_cons, List.length_nil, size_list]; omega
    obtain ⟨ln, hln⟩ : ∃ ln, ls.length = ln := ⟨_, rfl⟩
    have hLN : Hid (ls.length = ln) := hln
    have hlnb : ln ≤ 3000000 := by have := flat_ge ls; omega
    obtain ⟨a3, c3, hv3, hst⟩ := hsl2
    simp only [Value.slice.injEq] at hv3
    obtain ⟨rfl, -, rfl⟩ := hv3
    have hstH : Hid (0 < ls.length → ∃ g o, a2 = some ⟨g, o, none⟩ ∧ ¬ E2 g ∧ StAt U2 g o ls) := hst
    obtain ⟨S1, hS1⟩ : ∃ S1 : ByteArray, (⟨#[91]⟩ ++ nm ++ ⟨#[93, 10]⟩ : ByteArray) = S1 := ⟨_, rfl⟩
    have hS1l : S1.data.toList = [91] ++ nm.data.toList ++ [93, 10] := by rw [← hS1]; simp
    have hS1z : S1.size = nm.size + 3 := by rw [← size_list, hS1l]; simp only [List.length_append, List.length_cons, List.length_nil, size_list]; omega
    have hw1 := writeString_mv (w.heap.size + 1) v x S1 U2 hB (by omega) (by omega)
    rw [hS1l] at hw1
    have hw1H : Hid (Calls Tryd.prog 30 #[.pointer (some ⟨w.heap.size + 1, 0, none⟩), .string S1] U2 fun e w' => (∃ r, e = .returned r) ∧ Wrote (w.heap.size + 1) v (x ++ ([91] ++ nm.data.toList ++ [93, 10])) U2 w') := hw1
    have hnmz : nm.size ≤ 3000000 := by omega
    have hone : (ls.flatMap oneL).length + x.length + nm.size + 3 ≤ 3000000 := by omega
    rw [hln]
    clear hi hm tw hw1 hsv hrec hst hln hS1l hS1z hxl hsecl
    gi_wp2_with (rw [hS1])
    refine ⟨trivial, (CallsIn.inRound l1 (callsIn_wide.2 hw1H.out)).mono ?_⟩
    rintro e U3 ⟨⟨r, rfl⟩, v1, hB1, mw1, hn1⟩
    clear hw1H
    have hE2o : ∀ k, Ow (w.heap.size + 1) v1 k → E2 k ∨ U2.heap.size ≤ k := fun k hk => by
      rcases hk with h | h
      · exact .inl ((hE2 k).2 (.inl h))
      · rcases hn1 k h with q | q
        · exact .inl ((hE2 k).2 (.inr q))
        · exact .inr q
    have mE3 : Mv E2 U2 U3 := mw1.mono (fun k _ h => (hE2 k).2 h)
    dsimp only
    gi_wp2_with fail
    gi_loopw [19] (fun i wr => ∃ (k : Nat) (v' : Value) (x' : L), k ≤ ln ∧ i = .int .i64 k ∧ Hid (x' = x ++ ([91] ++ nm.data.toList ++ [93, 10]) ++ (ls.take k).flatMap oneL) ∧ Bld (w.heap.size + 1) v' x' wr ∧ Mv E2 U2 wr ∧ Hid (∀ q, Ow (w.heap.size + 1) v' q → E2 q ∨ U2.heap.size ≤ q)) (fun i _ => ln - (intOf i).toNat)
    case atStart => exact ⟨0, v1, _, by omega, rfl, by show _ = _; simp, hB1, mE3, hE2o⟩
    case round =>
      obtain ⟨k, v', x', hk, rfl, hx', hB', mr, hEo⟩ := hrel
      by_cases hlt : k < ln
      · obtain ⟨y, hy⟩ : ∃ y, ls[k]? = some y := ⟨_, List.getElem?_eq_getElem (by rw [hLN.out]; exact hlt)⟩
        obtain ⟨g, o, rfl, hg, hst⟩ := hstH.out (by rw [hLN.out]; omega)
        obtain ⟨p0, p1, p2, p3⟩ := (hst k y hy).mv mr hg
        have hts := take_snocS hy
        obtain ⟨S2, hS2⟩ : ∃ S2 : ByteArray, (y.k ++ ⟨#[61]⟩ ++ y.v ++ ⟨#[10]⟩ : ByteArray) = S2 := ⟨_, rfl⟩
        have hS2l : S2.data.toList = oneL y := by rw [← hS2]; simp [oneL]
        have hx2 : Hid (x' ++ oneL y = x ++ ([91] ++ nm.data.toList ++ [93, 10]) ++ (ls.take (k + 1)).flatMap oneL) := by
          show _ = _
          rw [hx'.out, hts]; simp
        have hlen : (ls.take (k + 1)).flatMap oneL = (ls.take k).flatMap oneL ++ oneL y := by rw [hts]; simp
        have hle : ((ls.take (k + 1)).flatMap oneL).length ≤ (ls.flatMap oneL).length := by
          conv => rhs; rw [← List.take_append_drop (k + 1) ls]
          rw [List.flatMap_append, List.length_append]; omega
        have hx'l : x'.length + (oneL y).length ≤ 3000000 := by
          have := congrArg List.length hx2.out
          simp only [List.length_append, List.length_cons, List.length_nil, size_list] at this hone hle ⊢
          omega
        have hoy : (oneL y).length = S2.size := by rw [← hS2l, size_list]
        have hyk : y.k.size + y.v.size ≤ 3000000 := by
          have : (oneL y).length = y.k.size + y.v.size + 2 := by simp only [oneL, List.length_append, List.length_cons, List.length_nil, size_list]; omega
          omega
        obtain ⟨U4, hU4⟩ : ∃ U4, wr.alloc (.cells #[.string y.s, .string y.k, .string y.v, .int .i64 y.n] 44) = U4 := ⟨_, rfl⟩
        have mU4 : ∀ F, Mv F wr U4 := fun F => by rw [← hU4]; exact Mv.alloc _ _ _
        have z1 : U4.cell? ⟨wr.heap.size, 1, none⟩ = some (.string y.k) := by rw [← hU4]; exact cell_at rfl rfl
        have z2 : U4.cell? ⟨wr.heap.size, 2, none⟩ = some (.string y.v) := by rw [← hU4]; exact cell_at rfl rfl
        have hw2 := writeString_mv (w.heap.size + 1) v' x' S2 U4 (hB'.mv (mU4 (fun _ => False)) (fun _ _ h => h)) (by omega) (by omega)
        rw [hS2l] at hw2
        have hw2H : Hid (Calls Tryd.prog 30 #[.pointer (some ⟨w.heap.size + 1, 0, none⟩), .string S2] U4 fun e w' => (∃ r, e = .returned r) ∧ Wrote (w.heap.size + 1) v' (x' ++ oneL y) U4 w') := hw2
        have hkI : (k : Int) < (ln : Int) := by omega
        clear hw2 hst hy hts hlen hle hx'l hoy hS2l
        gi_wp2_with (first | rw [hU4] | rw [hS2])
        refine ⟨trivial, (CallsIn.inRound l1 (callsIn_wide.2 hw2H.out)).mono ?_⟩
        rintro e U5 ⟨⟨r', rfl⟩, v2, hB2, mw2, hn2⟩
        dsimp only
        gi_wp2_with fail
        have m5 : Mv E2 U2 U5 := (mr.trans' (mU4 _)).trans (E' := Ow (w.heap.size + 1) v') (fun q hq => (hEo.out q hq)) mw2
        refine ⟨⟨k + 1, v2, _, by omega, by go_num, hx2, hB2, m5, fun q hq => ?_⟩, by simp [intOf]; omega⟩
        rcases hq with h | h
        · exact hEo.out q (.inl h)
        · rcases hn2 q h with h | h
          · exact hEo.out q (.inr h)
          · right
            have := mr.size; have := (mU4 (fun _ => False)).size; omega
      · obtain rfl : k = ln := by omega
        have hkI : ¬ ((k : Int) < (k : Int)) := by omega
        have hx3 : Hid (x' ++ prt rest = T) := by
          show _ = _
          rw [hx'.out, ← hx.out, List.take_of_length_le (by rw [hLN.out]; omega)]
          simp [prt, secL]
        gi_wp2_with fail
        exact ⟨mr, _, hEo.out, v', x', ⟨fun _ => Iff.rfl, hx3⟩, hB'⟩
  case done =>
    rintro D E2 U hD hK hnD hm hgr ⟨v, x, ⟨hE2, hx⟩, hB⟩
    have hxT : Hid (x = T) := by show _ = _; have := hx.out; simpa [prt] using this
    have hstr := string_mv (w.heap.size + 1) v x U hB (by rw [hxT.out]; omega)
    have nD : ¬ Ow (w.heap.size + 1) v D := fun h => hnD ((hE2 D).2 h)
    have hlo : ∀ k, Ow (w.heap.size + 1) v k → w.heap.size ≤ k := fun k hk => by
      rcases hgr k ((hE2 k).2 hk) with h | h
      · rcases (hE k).1 h with q | q
        · omega
        · simp [Value.ownBlock] at q
      · omega
    have hbU : Below w.heap.size w U := (((m0 (fun _ => False)).trans' (m1 _)).toBelow (Nat.le_refl _) (fun _ _ h => h)).trans (hm.toBelow (by omega) (fun k hk h => nE k (by omega) h))
    rw [hxT.out] at hstr
    have hstrH : Hid (Calls Tryd.prog 31 #[.pointer (some ⟨w.heap.size + 1, 0, none⟩)] U fun e w' => e = .returned (.string ⟨T.toArray⟩) ∧ Mv (Ow (w.heap.size + 1) v) U w' ∧ w'.heap[w.heap.size + 1]? = U.heap[w.heap.size + 1]?) := hstr
    clear hstr
    gi_wp2_with fail
    refine ⟨trivial, (callsIn_wide.2 hstrH.out).mono ?_⟩
    rintro e U2 ⟨rfl, m2, _⟩
    dsimp only
    have hK2 : U2.heap[D]? = some (.deferred (some [])) := (m2.block D (lt_of_heap hK) nD).trans hK
    gi_wp2_with fail
    refine ⟨by simp, .inl ⟨_, _, rfl, run_takeDeferred hK2, ?_⟩⟩
    have mP : Mv (fun k => k = D) U2 (U2.putObj D (.deferred none)) := Mv.put (E := fun k => k = D) rfl _
    refine ⟨.string ⟨T.toArray⟩, by simp [results, Tryd.results14, go_sem], rfl, ?_⟩
    exact (hbU.trans (m2.toBelow hbU.size (fun k hk h => by have := hlo k h; omega))).trans (mP.toBelow (by have := hbU.size; have := m2.size; omega) (fun k hk e => by omega))
end Go.Proofs.YtmoafagemdnifaaDoor
