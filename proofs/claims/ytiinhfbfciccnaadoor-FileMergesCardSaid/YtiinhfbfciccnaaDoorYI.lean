import Derived.Test.YtiinhfbfciccnaaDoorYA
import Derived.Test.YtiinhfbfciccnaaDoorYB
import Derived.Test.YtiinhfbfciccnaaDoorYG
import Derived.Test.YtiinhfbfciccnaaDoorShelfR
/- The row that unitfile.values makes of settings: the places and values of one section and key; the contract of Last. -/
namespace Go.Proofs.YtiinhfbfciccnaaDoor
open Go.RowKit Go.Shelf
attribute [local go_sem] Oper.semAt_some
theorem str_eq' (a b : ByteArray) : (a.toList == b.toList) = decide (a = b) := by
  rw [Lib.toList_data, Lib.toList_data]
  by_cases h : a = b
  · rw [h]; simp
  · rw [decide_eq_false h]
    have : a.data.toList ≠ b.data.toList := fun e => h (by rw [← Lib.mk_data a, e, Lib.mk_data])
    simpa using this
/-- The places and values of one section and key. -/
def hits (sec key : ByteArray) : Nat → List St → List (Nat × ByteArray)
  | _, [] => []
  | i, x :: r => if x.s = sec ∧ x.k = key then (i, x.v) :: hits sec key (i + 1) r else hits sec key (i + 1) r
theorem hits_yes {sec key : ByteArray} {i : Nat} {x : St} {r : List St} (h1 : x.s = sec) (h2 : x.k = key) : hits sec key i (x :: r) = (i, x.v) :: hits sec key (i + 1) r := by simp [hits, h1, h2]
theorem hits_no {sec key : ByteArray} {i : Nat} {x : St} {r : List St} (h : ¬ (x.s = sec ∧ x.k = key)) : hits sec key i (x :: r) = hits sec key (i + 1) r := by simp only [hits, if_neg h]
def encV (p : Nat × ByteArray) : Array Value := #[.int .i64 p.1, .string p.2]
theorem dropS {l : List St} {k : Nat} {x : St} (h : l[k]? = some x) : l.drop k = x :: l.drop (k + 1) := by
  obtain ⟨h1, h2⟩ := List.getElem?_eq_some_iff.1 h
  rw [List.drop_eq_getElem_cons h1, h2]
/-- What values has captured. -/
structure VBox (E : Nat → Prop) (W : World) (b1 b2 b3 : Nat) (v : Value) (sec key : ByteArray) (l : List St) : Prop where
  c1 : W.cell? ⟨b1, 0, none⟩ = some v
  e1 : ¬ E b1
  c2 : W.cell? ⟨b2, 0, none⟩ = some (.string sec)
  e2 : ¬ E b2
  c3 : W.cell? ⟨b3, 0, none⟩ = some (.string key)
  e3 : ¬ E b3
  sl : SlIs E W v l
theorem VBox.mv {E E' : Nat → Prop} {W V : World} {b1 b2 b3 : Nat} {v : Value} {sec key : ByteArray} {l : List St} (h : VBox E W b1 b2 b3 v sec key l) (m : Mv E W V) (g : Gr E W E') : VBox E' V b1 b2 b3 v sec key l :=
  ⟨m.cell h.e1 h.c1, g.free (cell_lt h.c1) h.e1, m.cell h.e2 h.c2, g.free (cell_lt h.c2) h.e2, m.cell h.e3 h.c3, g.free (cell_lt h.c3) h.e3, h.sl.mv m g⟩
set_option maxRecDepth 100000 in
set_option maxHeartbeats 4000000 in
theorem values1_row (l : List St) (b1 b2 b3 : Nat) (v : Value) (sec key : ByteArray) (E : Nat → Prop) (W : World) (hb : VBox E W b1 b2 b3 v sec key l) (hl : l.length ≤ 1000000000) :
    Row Tryd.prog 44 #[.pointer (some ⟨b1, 0, none⟩), .pointer (some ⟨b2, 0, none⟩), .pointer (some ⟨b3, 0, none⟩)] encV (hits sec key 0 l) E W := by
  intro u J Jx E1 V m g hJ hJx hY h0
  have hb1 := hb.mv m g
  have d1 := hb1.c1
  have d2 := hb1.c2
  have d3 := hb1.c3
  obtain ⟨a, cap, rfl, hs1⟩ := id hb1.sl
  obtain ⟨n, hn⟩ : ∃ n, l.length = n := ⟨_, rfl⟩
  rw [hn] at d1 hs1 hl
  have hN : Hid (l.length = n) := hn
  have f2 := hb1.e2
  have f3 := hb1.e3
  have hlow := hJ.low _ _ _ h0
  clear hn hb hb1
  refine (callsIn_wide (n := 5)).1 ?_
  refine callsIn_of_wp Tryd.func44 rfl trivial ?_ rfl
  simp only [Tryd.ntmps44, List.size_toArray, List.length_cons, List.length_nil, Nat.reduceAdd, Nat.reduceSub, Array.replicate_succ, Array.replicate_zero, List.push_toArray, List.append_toArray, List.nil_append, List.cons_append]
  gi_wp2
  gi_loopw [9] (fun i wr => ∃ (k : Nat) (E2 : Nat → Prop), k ≤ n ∧ i = .int .i64 k ∧ J (hits sec key k (l.drop k)) E2 wr ∧ Mv E1 V wr ∧ Gr E1 V E2) (fun i _ => n - (intOf i).toNat)
  case atStart => exact ⟨0, E1, by omega, rfl, by rw [List.drop_zero]; exact h0, Mv.refl _ _, Gr.refl _ _⟩
  case round =>
    obtain ⟨k, E2, hk, rfl, hj, hm, hg⟩ := hrel
    by_cases hlt : k < n
    · obtain ⟨gb, o, rfl, hgb, hst⟩ := hs1 (by omega)
      obtain ⟨x, hx⟩ : ∃ x, l[k]? = some x := ⟨_, List.getElem?_eq_getElem (by rw [hN.out]; exact hlt)⟩
      rw [dropS hx] at hj
      obtain ⟨p0, p1, p2, p3⟩ := (hst k x hx).mv hm hgb
      have c2 := hm.cell f2 d2
      have c3 := hm.cell f3 d3
      have hkI : (k : Int) < (n : Int) := by omega
      obtain ⟨U1, hU1⟩ : ∃ U1, wr.alloc (.cells #[.string x.s, .string x.k, .string x.v, .int .i64 x.n] 44) = U1 := ⟨_, rfl⟩
      have mU1 : ∀ F, Mv F wr U1 := fun F => by rw [← hU1]; exact Mv.alloc _ _ _
      have x0 : U1.cell? ⟨wr.heap.size, 0, none⟩ = some (.string x.s) := by rw [← hU1]; exact cell_at rfl rfl
      have x1 : U1.cell? ⟨wr.heap.size, 1, none⟩ = some (.string x.k) := by rw [← hU1]; exact cell_at rfl rfl
      have x2 : U1.cell? ⟨wr.heap.size, 2, none⟩ = some (.string x.v) := by rw [← hU1]; exact cell_at rfl rfl
      have y2 := (mU1 (fun _ => False)).cell (fun h => h) c2
      have y3 := (mU1 (fun _ => False)).cell (fun h => h) c3
      have hjU := hJ.keep _ _ _ _ hj (mU1 _)
      have hmU := hm.trans' (mU1 _)
      clear hst hx hs1
      by_cases e1 : x.s = sec
      · have e1b : (x.s.toList == sec.toList) = true := by rw [str_eq', e1]; simp
        by_cases e2 : x.k = key
        · have e2b : (x.k.toList == key.toList) = true := by rw [str_eq', e2]; simp
          rw [hits_yes e1 e2] at hjU
          obtain ⟨fn, tmps, assign, body, hy, hR⟩ := hY (k, x.v) _ E2 U1 hjU
          dsimp only [encV] at hy
          clear e1 e2
          gi_wp2_with (rw [hU1])
          refine (wide_round' hR).mono ?_
          rintro e W3 ⟨m3, (⟨rfl, E3, g3, hj3⟩ | ⟨rfl, E3, g3, hj3⟩)⟩
          · gi_wp2
            exact ⟨⟨k + 1, E3, by omega, by go_num, hj3, hmU.trans hg m3, hg.trans hmU.size g3⟩, by simp [intOf]; omega⟩
          · gi_wp2
            refine bodyPost_ret (results_none rfl _ _ _) rfl ?_
            exact ⟨⟨_, rfl⟩, hmU.trans hg m3, .inr ⟨E3, hg.trans hmU.size g3, hj3⟩⟩
        · have e2b : (x.k.toList == key.toList) = false := by rw [str_eq', decide_eq_false e2]
          rw [hits_no (fun h => e2 h.2)] at hjU
          clear e1 e2
          gi_wp2_with (rw [hU1])
          refine ⟨fun _ h => (by cases h), ?_⟩
          gi_wp2_with fail
          exact ⟨⟨k + 1, E2, by omega, by go_num, hjU, hmU, hg⟩, by simp [intOf]; omega⟩
      · have e1b : (x.s.toList == sec.toList) = false := by rw [str_eq', decide_eq_false e1]
        rw [hits_no (fun h => e1 h.1)] at hjU
        clear e1
        gi_wp2_with (rw [hU1])
        refine ⟨fun _ h => (by cases h), ?_⟩
        gi_wp2_with fail
        exact ⟨⟨k + 1, E2, by omega, by go_num, hjU, hmU, hg⟩, by simp [intOf]; omega⟩
    · obtain rfl : k = n := by omega
      rw [List.drop_of_length_le (by rw [hN.out]; omega)] at hj
      have hkI : ¬ ((k : Int) < (k : Int)) := by omega
      gi_wp2
      go_end0
      exact ⟨⟨_, rfl⟩, hm, .inl ⟨E2, hg, hj⟩⟩
set_option maxHeartbeats 1000000 in
theorem values_any (a : Option Addr) (n c : Nat) (sec key : ByteArray) (w : World) : Calls Tryd.prog 32 #[.slice a n c, .string sec, .string key] w fun e w' => e = .returned (.func (.func 44) #[] #[.pointer (some ⟨w.heap.size, 0, none⟩), .pointer (some ⟨w.heap.size + 1, 0, none⟩), .pointer (some ⟨w.heap.size + 1 + 1, 0, none⟩)]) ∧ w' = ((w.alloc (.cells #[.slice a n c] 23)).alloc (.cells #[.string sec] 9)).alloc (.cells #[.string key] 9) := by
  go_enter Tryd.func32, Tryd.ntmps32
  go_wp2
  go_ret
  exact ⟨rfl, rfl⟩
theorem vbox_new (a : Option Addr) (n c : Nat) (sec key : ByteArray) (l : List St) (w : World) (E : Nat → Prop) (hE : ∀ k, E k → k < w.heap.size) (hs : SlIs E w (.slice a n c) l) :
    VBox E (((w.alloc (.cells #[.slice a n c] 23)).alloc (.cells #[.string sec] 9)).alloc (.cells #[.string key] 9)) w.heap.size (w.heap.size + 1) (w.heap.size + 1 + 1) (.slice a n c) sec key l := by
  have nE : ∀ k, w.heap.size ≤ k → ¬ E k := fun k hk h => by have := hE k h; omega
  refine ⟨?_, nE _ (Nat.le_refl _), ?_, nE _ (by omega), cell_at (by simp) rfl, nE _ (by omega), hs.mv (((Mv.alloc _ _ _).trans' (Mv.alloc _ _ _)).trans' (Mv.alloc _ _ _)) (Gr.refl _ _)⟩
  · exact ((Mv.alloc (fun _ => False) _ _).trans' (Mv.alloc _ _ _)).cell (fun h => h) (cell_at rfl rfl)
  · exact (Mv.alloc (fun _ => False) _ _).cell (fun h => h) (cell_at (by simp) rfl)
/-- The last value, and whether there is one. -/
def lastV : List (Nat × ByteArray) → ByteArray × Bool → ByteArray × Bool
  | [], s => s
  | p :: r, _ => lastV r (p.2, true)
/-- The two variables of Last. -/
structure LVar (b : Nat) (s : ByteArray × Bool) (W : World) : Prop where
  c0 : Cl b (.string s.1) W
  c1 : Cl (b + 1) (.bool s.2) W
def LI2 (b : Nat) (T : ByteArray × Bool) (rest : List (Nat × ByteArray)) (E : Nat → Prop) (W : World) : Prop := ∃ s, ((∀ k, E k ↔ (k = b ∨ k = b + 1)) ∧ Hid (lastV rest s = T)) ∧ LVar b s W
theorem LI2.ter (b B : Nat) (T : ByteArray × Bool) : Ter B (LI2 b T) := by
  refine ⟨?_, ?_⟩
  · rintro s E W V ⟨x, ⟨hE, h⟩, hv⟩ m
    exact ⟨x, ⟨hE, h⟩, hv.c0.mv m (fun h => h.1 ((hE _).2 (.inl rfl))), hv.c1.mv m (fun h => h.1 ((hE _).2 (.inr rfl)))⟩
  · rintro s E W ⟨x, ⟨hE, h⟩, hv⟩ k hk
    rcases (hE k).1 hk with rfl | rfl
    · exact hv.c0.lt
    · exact hv.c1.lt
set_option maxRecDepth 100000 in
set_option maxHeartbeats 4000000 in
theorem last_any (v : Value) (l : List St) (sec key : ByteArray) (w : World) (hs : SlIs (fun _ => False) w v l) (hl : l.length ≤ 1000000000) (T : ByteArray × Bool) (hT : lastV (hits sec key 0 l) (⟨#[]⟩, false) = T) :
    Calls Tryd.prog 18 #[.agg #[v], .string sec, .string key] w fun e w' => e = .returned (.tuple #[.string T.1, .bool T.2]) ∧ Below w.heap.size w w' := by
  have hTH : Hid (lastV (hits sec key 0 l) (⟨#[]⟩, false) = T) := hT
  obtain ⟨a, c, rfl, hs1⟩ := id hs
  obtain ⟨n, hn⟩ : ∃ n, l.length = n := ⟨_, rfl⟩
  rw [hn] at hs ⊢
  obtain ⟨W0, hW0⟩ : ∃ W0, ((w.alloc (.cells #[.slice a n c] 25)).alloc (.cells #[.string ⟨#[]⟩] 9)).alloc (.cells #[.bool false] 4) = W0 := ⟨_, rfl⟩
  have hs0 : W0.heap.size = w.heap.size + 3 := by rw [← hW0]; simp
  have m0 : ∀ F : Nat → Prop, Mv F w W0 := fun F => by rw [← hW0]; exact ((Mv.alloc _ _ _).trans' (Mv.alloc _ _ _)).trans' (Mv.alloc _ _ _)
  have q0 : W0.cell? ⟨w.heap.size, 0, none⟩ = some (.slice a n c) := by rw [← hW0]; exact ((Mv.alloc (fun _ => False) _ _).trans' (Mv.alloc _ _ _)).cell (fun h => h) (cell_at rfl rfl)
  have k0 : Cl (w.heap.size + 1) (.string ⟨#[]⟩) W0 := by
    rw [← hW0]
    refine Cl.mv (E := fun _ => False) (W := (w.alloc (.cells #[.slice a n c] 25)).alloc (.cells #[.string ⟨#[]⟩] 9)) ⟨cell_at (by simp) rfl, ?_⟩ (Mv.alloc _ _ _) (fun h => h)
    rw [← World.size_alloc w (.cells #[.slice a n c] 25)]
    exact World.frozen?_alloc_new _ _ _ _
  have k1 : Cl (w.heap.size + 1 + 1) (.bool false) W0 := by
    rw [← hW0]
    refine ⟨cell_at (by simp) rfl, ?_⟩
    have := World.frozen?_alloc_new ((w.alloc (.cells #[.slice a n c] 25)).alloc (.cells #[.string ⟨#[]⟩] 9)) #[.bool false] 4 0
    simpa using this
  clear hT hs1
  refine (callsIn_wide (n := 5)).1 ?_
  refine callsIn_of_wp_marks Tryd.func18 rfl trivial ?_ rfl
  simp only [Tryd.ntmps18, List.size_toArray, List.length_cons, List.length_nil, Nat.reduceAdd, Nat.reduceSub, Array.replicate_succ, Array.replicate_zero, List.push_toArray, List.append_toArray, List.nil_append, List.cons_append]
  have k0c := k0.c
  have k0f := k0.f
  have k1o := k1.oth (j := w.heap.size + 1) (by omega) (.string ⟨#[]⟩)
  have k1c := k1o.c
  have k1f := k1o.f
  obtain ⟨V0, hV0⟩ : ∃ V0, (W0.setCell ⟨w.heap.size + 1, 0, none⟩ (.string ⟨#[]⟩)).setCell ⟨w.heap.size + 1 + 1, 0, none⟩ (.bool false) = V0 := ⟨_, rfl⟩
  have mV0 : Mv (fun k => k = w.heap.size + 1 ∨ k = w.heap.size + 1 + 1) W0 V0 := by rw [← hV0]; exact ((Mv.refl _ _).setc (p := ⟨w.heap.size + 1, 0, none⟩) (.inl (.inl rfl)) _).setc (p := ⟨w.heap.size + 1 + 1, 0, none⟩) (.inl (.inr rfl)) _
  have c0 : Cl (w.heap.size + 1) (.string ⟨#[]⟩) V0 := by rw [← hV0]; exact (k0.set _).oth (j := w.heap.size + 1 + 1) (by omega) _
  have c1 : Cl (w.heap.size + 1 + 1) (.bool false) V0 := by rw [← hV0]; exact k1o.set _
  have q1 := mV0.cell (show ¬ (w.heap.size = w.heap.size + 1 ∨ w.heap.size = w.heap.size + 1 + 1) by omega) q0
  have hsV : V0.heap.size = w.heap.size + 3 := by rw [← hV0, ← hs0]; simp
  have hsV2 : Hid (V0.heap.size = w.heap.size + 3) := hsV
  have mwV : ∀ F : Nat → Prop, (∀ k, F k → w.heap.size ≤ k) → Mv F w V0 := fun F hF => ⟨mV0.os.trans (m0 F).os, mV0.tape.trans (m0 F).tape, mV0.output.trans (m0 F).output, by omega, fun k hk _ => (mV0.block k (by omega) (by omega)).trans ((m0 (fun _ => False)).block k hk (fun h => h))⟩
  clear hsV
  gi_wp2_with (first | rw [hW0] | rw [hV0])
  refine ⟨trivial, (callsIn_wide.2 (values_any a n c sec key V0)).mono ?_⟩
  rintro e W1 ⟨rfl, hW1⟩
  obtain ⟨E, hE⟩ : ∃ E : Nat → Prop, ∀ k, E k ↔ (k = w.heap.size + 1 ∨ k = w.heap.size + 1 + 1) := ⟨_, fun _ => Iff.rfl⟩
  have hslV : SlIs E V0 (.slice a n c) l := by
    obtain ⟨a', c', hv, h1⟩ := hs
    refine SlIs.mv (E := E) (W := w) ⟨a', c', hv, fun h0 => ?_⟩ (mwV E (fun k hk => by rcases (hE k).1 hk with h | h <;> omega)) (Gr.refl _ _)
    obtain ⟨g, o, e1, _, e2⟩ := h1 h0
    have hgl : g < w.heap.size := cell_lt (e2 0 _ (List.getElem?_eq_getElem h0)).c0
    exact ⟨g, o, e1, fun h => by rcases (hE g).1 h with h | h <;> omega, e2⟩
  have hlowE : ∀ k, E k → k < V0.heap.size := fun k hk => by have := hsV2.out; rcases (hE k).1 hk with h | h <;> omega
  have hrow := values1_row l _ _ _ (.slice a n c) sec key E W1 (by rw [hW1]; exact vbox_new a n c sec key l V0 E hlowE hslV) hl
  have m1 : ∀ F : Nat → Prop, Mv F V0 W1 := fun F => by rw [hW1]; exact ((Mv.alloc _ _ _).trans' (Mv.alloc _ _ _)).trans' (Mv.alloc _ _ _)
  have hs1 : W1.heap.size = V0.heap.size + 3 := by rw [hW1]; simp
  have hs1H : Hid (W1.heap.size = V0.heap.size + 3) := hs1
  clear hW1 hs1
  have tI : Ter W1.heap.size (LI2 (w.heap.size + 1) T) := LI2.ter _ _ _
  have h0I : LI2 (w.heap.size + 1) T (hits sec key 0 l) E W1 := ⟨(⟨#[]⟩, false), ⟨hE, hTH⟩, c0.mv (m1 (fun _ => False)) (fun h => h), c1.mv (m1 (fun _ => False)) (fun h => h)⟩
  gi_wp2_with fail
  refine loop_out (gf := 44) (lb := #[.pointer (some ⟨V0.heap.size, 0, none⟩), .pointer (some ⟨V0.heap.size + 1, 0, none⟩), .pointer (some ⟨V0.heap.size + 1 + 1, 0, none⟩)]) rfl (enters_of Tryd.func44 (by kernel_rfl) rfl) hrow (fun _ => rfl) (LI2 (w.heap.size + 1) T) MX tI (MX.ter _) h0I ?round ?done ?stop
  case stop => rintro D c' E2 U _ _ _ _ _ h; exact h.elim
  case round =>
    rintro l1 hl1 ⟨i, y⟩ rest E2 U hi hm hgr hEl hrec
    simp only [encV]
    gi_wp2
    refine ⟨⟨Mv.refl _ _, trivial⟩, fun U2 tw => ?_⟩
    obtain ⟨⟨s, ⟨hE2, hx⟩, hv⟩, hm2⟩ := tw.go tI hi (Mv.refl _ _) hm (Nat.le_refl _) (by omega) hEl
    have a0 := hv.c0.c
    have a1 := hv.c0.f
    have o1 := hv.c1.oth (j := w.heap.size + 1) (by omega) (.string y)
    have a2 := o1.c
    have a3 := o1.f
    clear hi hm tw hrec
    gi_wp2_with fail
    refine ⟨((Mv.refl _ _).setc (p := ⟨w.heap.size + 1, 0, none⟩) (.inl ((hE2 _).2 (.inl rfl))) _).setc (p := ⟨w.heap.size + 1 + 1, 0, none⟩) (.inl ((hE2 _).2 (.inr rfl))) _, E2, Gr.refl _ _, (y, true), ⟨hE2, hx⟩, (hv.c0.set _).oth (j := w.heap.size + 1 + 1) (by omega) _, o1.set _⟩
  case done =>
    rintro D E2 U hD hK hnD hm hgr ⟨s, ⟨hE2, hx⟩, hv⟩
    obtain rfl : s = T := hx.out
    have a0 := hv.c0.c
    have a2 := hv.c1.c
    have hbU : Below w.heap.size w U := ((mwV (fun _ => False) (fun _ h => h.elim)).toBelow (Nat.le_refl _) (fun _ _ h => h)).trans ((((m1 (fun _ => False)).toBelow (by have := hsV2.out; omega) (fun _ _ h => h))).trans (hm.toBelow (by have := hsV2.out; have := hs1H.out; omega) (fun k hk h => by rcases (hE k).1 h with h | h <;> omega)))
    gi_wp2_with fail
    refine wpIn_wide.2 ?_
    go_quiet (fail)
    gi_wp2_with fail
    refine ⟨by simp, .inl ⟨_, _, rfl, run_takeDeferred (w := U.drewN _) hK, ?_⟩⟩
    refine ⟨.tuple #[.string s.1, .bool s.2], by simp [results, Tryd.results18, go_sem], rfl, ?_⟩
    exact (below_drewN hbU _).trans ((Mv.put (E := fun k => k = D) rfl _).toBelow (by have := hbU.size; exact this) (fun k hk e => by have := hsV2.out; have := hs1H.out; omega))
end Go.Proofs.YtiinhfbfciccnaaDoor
/- The contract of unitfile.All; the row of values under FileDrops's closure. -/
namespace Go.Proofs.YtiinhfbfciccnaaDoor
open Go.RowKit Go.Shelf
theorem clone_own (base : Nat) (v : Value) (l : List St) (w : World) (h : w.ownsRow base 44 4 v l.length (stsC l)) (hl : l.length ≤ 1000000) :
    Calls Tryd.prog 33 #[v] w fun e w' => ∃ v', e = .returned v' ∧ w'.ownsRow w.heap.size 44 4 v' l.length (stsC l) ∧ Below w.heap.size w w' := by
  obtain ⟨i0, hinf, hz0, hz1, hz2⟩ := info_parts infoSt
  rcases id h.2 with ⟨rfl, h0⟩ | ⟨g, cap, cur, rfl, hb, hh, hn, hc, hz, hx⟩
  · refine (Tryd.slices_Clone_nil 0 0 w).mono ?_
    rintro e w' ⟨rfl, rfl⟩
    have : l = [] := List.length_eq_zero_iff.1 h0
    subst this
    exact ⟨_, rfl, World.ownsRow_nil _ _ _ _, Below.refl _ _⟩
  · refine (Tryd.slices_Clone i0 _ 4 56 hinf hz0 hz1 hz2 rfl (by decide) Tryd.sizeOf44 g 0 l.length cap (stsC l) w (stsC_len l) (by unfold maxLen; omega) (by omega) (fun j u hj => ?_) (fun u hu => ?_)).mono ?_
    · rw [Nat.zero_add]
      have hlt : j < l.length * 4 := by have := (List.getElem?_eq_some_iff.1 hj).1; rwa [stsC_len] at this
      exact (h.cellAt j hlt).trans hj
    · unfold stsC at hu
      obtain ⟨x, _, hxu⟩ := List.mem_flatMap.1 hu
      exact sts_one x u hxu
    · rintro e w' ⟨v', rfl, ho, _, hbw⟩
      exact ⟨v', rfl, ho, hbw⟩
set_option maxHeartbeats 2000000 in
theorem all_own (base : Nat) (v : Value) (l : List St) (sec key : ByteArray) (w : World) (h : w.ownsRow base 44 4 v l.length (stsC l)) (hl : l.length ≤ 1000000) :
    Calls Tryd.prog 16 #[.agg #[v], .string sec, .string key] w fun e w' => ∃ b1 b2 b3 v', e = .returned (.func (.func 44) #[] #[.pointer (some ⟨b1, 0, none⟩), .pointer (some ⟨b2, 0, none⟩), .pointer (some ⟨b3, 0, none⟩)]) ∧ VBox (fun k => k < w.heap.size) w' b1 b2 b3 v' sec key l ∧ Below w.heap.size w w' := by
  obtain ⟨a, n, c, rfl⟩ := own_shape h
  obtain ⟨W0, hW0⟩ : ∃ W0, w.alloc (.cells #[.slice a n c] 25) = W0 := ⟨_, rfl⟩
  have m0 : ∀ F, Mv F w W0 := fun F => by rw [← hW0]; exact Mv.alloc _ _ _
  have hs0 : W0.heap.size = w.heap.size + 1 := by rw [← hW0]; simp
  have hb0 : Below w.heap.size w W0 := (m0 (fun _ => False)).toBelow (Nat.le_refl _) (fun _ _ h => h)
  have q0 : W0.cell? ⟨w.heap.size, 0, none⟩ = some (.slice a n c) := by rw [← hW0]; exact cell_at rfl rfl
  have hcl := clone_own base (.slice a n c) l W0 (own_mv h (m0 (fun _ => False)) (fun _ _ h => h)) hl
  have hs0H : Hid (W0.heap.size = w.heap.size + 1) := hs0
  clear hs0
  go_enter Tryd.func16, Tryd.ntmps16
  go_wp2_with (rw [hW0])
  refine hcl.mono ?_
  rintro e w1 ⟨v', rfl, ho1, hb1⟩
  dsimp only
  obtain ⟨a', n', c', rfl⟩ := own_shape ho1
  have hbw1 : Below w.heap.size w w1 := hb0.trans (hb1.mono (by have := hs0H.out; omega))
  go_wp2_with fail
  refine (values_any a' n' c' sec key w1).mono ?_
  rintro e W2 ⟨rfl, hW2⟩
  dsimp only
  have hsl : SlIs (fun k => k < w.heap.size) w1 (.slice a' n' c') l := own_slis _ (fun k hk _ h => by have := hs0H.out; omega) ho1
  have hvb := vbox_new a' n' c' sec key l w1 (fun k => k < w.heap.size) (fun k hk => by have := hbw1.size; omega) hsl
  rw [← hW2] at hvb
  have hb2 : Below w.heap.size w W2 := by rw [hW2]; exact ((hbw1.alloc hbw1.size _).alloc (by have := hbw1.size; simp; omega) _).alloc (by have := hbw1.size; simp; omega) _
  go_wp2_with fail
  go_ret
  exact ⟨_, _, _, _, rfl, hvb, hb2⟩
/-- The territory of a closure: its own variable, and what is new. -/
def Td (B pa k : Nat) : Prop := k = pa ∨ B ≤ k
set_option maxRecDepth 100000 in
set_option maxHeartbeats 4000000 in
theorem drops1_any (B pa i : Nat) (y : ByteArray) (v : Value) (acc : List ByteArray) (W : World) (hB : B ≤ W.heap.size) (hpa : pa < B) (ca : Cl pa v W) (ho : W.ownsRow B 9 1 v acc.length (acc.map Value.string)) (hal : acc.length ≤ 50) :
    Calls Tryd.prog 23 #[.int .i64 i, .string y, .pointer (some ⟨pa, 0, none⟩)] W fun e W' => e = .returned (.bool true) ∧ ∃ v', Cl pa v' W' ∧ W'.ownsRow B 9 1 v' (acc.length + 1) ((acc ++ [y]).map Value.string) ∧ Mv (Td B pa) W W' := by
  obtain ⟨j0, jinf, jz0, jz1, jz2⟩ := info_parts infoS
  have a0 := ca.c
  have hr1 := ho.alloc (.cells #[.string y] 9)
  go_enter Tryd.func23, Tryd.ntmps23
  go_wp2_with (at_builtin; refine wpList_append_own_at _ rfl _ _ 38 rfl B 9 j0 (.string ⟨#[]⟩) 1 16 Tryd.underlying38 jinf jz0 jz1 jz2 rfl (by decide) _ _ _ rfl hr1 ⟨W.heap.size, 0, none⟩ 1 1 [.string y] rfl rfl (row_news1 W _ _) (fun x hx => by simp at hx; subst hx; rfl) (by unfold maxLen; omega) (by omega) (by simp; omega) ?_)
  intro v' w4 hown' hgrow _ _
  have mg : Mv (fun k => v.ownBlock = some k) W w4 := (Mv.alloc _ _ _).grown hgrow (fun k e => .inl e)
  have nb : ∀ k, k < B → ¬ v.ownBlock = some k := fun k hk e => by have := (ho.lt k e).1; omega
  have c4 := ca.mv mg (nb _ hpa)
  have mset : Mv (fun k => k = pa) w4 (w4.setCell ⟨pa, 0, none⟩ v') := Mv.set1 (E := fun k => k = pa) rfl _
  obtain ⟨w5, hw5⟩ : ∃ w5, w4.setCell ⟨pa, 0, none⟩ v' = w5 := ⟨_, rfl⟩
  have c5 := c4.set v'
  rw [hw5] at c5 mset
  have h4 : ∀ k, v'.ownBlock = some k → B ≤ k := fun k hk => (hown'.lt k hk).1
  have ho5 := own_mv hown' mset (fun g hg e => by have := h4 g hg; omega)
  have m5 : Mv (Td B pa) W w5 := (mg.mono (fun k _ e => .inr (ho.lt k e).1)).trans' (mset.mono (fun k _ e => .inl e))
  obtain ⟨gg, cap', rfl⟩ := ownsRow_succ hown'
  have g0 := c4.c
  have g1 := c4.f
  have g2 := c5.c
  have hlI : ((acc.length : Int) + 1) < 100 := by omega
  go_wp2_with (rw [hw5])
  go_ret
  exact ⟨rfl, _, c5, by simpa using ho5, m5⟩
set_option maxRecDepth 100000 in
set_option maxHeartbeats 4000000 in
theorem valuesD (l : List St) (b1 b2 b3 pa : Nat) (v : Value) (sec key : ByteArray) (W0 : World) (hpa : pa < W0.heap.size) (hb : VBox (fun k => k = pa) W0 b1 b2 b3 v sec key l) (ca : Cl pa (.slice none 0 0) W0) (hl : l.length ≤ 45) (H : List ByteArray) (hH : (hits sec key 0 l).map Prod.snd = H) :
    Calls Tryd.prog 44 #[.func (.func 23) #[] #[.pointer (some ⟨pa, 0, none⟩)], .pointer (some ⟨b1, 0, none⟩), .pointer (some ⟨b2, 0, none⟩), .pointer (some ⟨b3, 0, none⟩)] W0 fun e W' => e = .returned (.tuple #[]) ∧ ∃ v', Cl pa v' W' ∧ W'.ownsRow W0.heap.size 9 1 v' H.length (H.map Value.string) ∧ Mv (Td W0.heap.size pa) W0 W' := by
  have hTd : ∀ k, k ≠ pa → k < W0.heap.size → ¬ Td W0.heap.size pa k := fun k h1 h2 h => by rcases h with h | h <;> omega
  have d1 := hb.c1
  have d2 := hb.c2
  have d3 := hb.c3
  have f2 : ¬ Td W0.heap.size pa b2 := hTd _ hb.e2 (cell_lt d2)
  have f3 : ¬ Td W0.heap.size pa b3 := hTd _ hb.e3 (cell_lt d3)
  obtain ⟨a, cap, rfl, hs1⟩ := id hb.sl
  obtain ⟨n, hn⟩ : ∃ n, l.length = n := ⟨_, rfl⟩
  rw [hn] at d1 hs1 hl
  have hN : Hid (l.length = n) := hn
  have hHH : Hid ((hits sec key 0 l).map Prod.snd = H) := hH
  clear hH
  have caH : Hid (Cl pa (.slice none 0 0) W0) := ca
  clear hn hb ca
  go_enter Tryd.func44, Tryd.ntmps44
  go_wp2_with fail
  go_loopw [9] (fun i wr => ∃ (k : Nat) (gv : Value) (acc : List ByteArray), k ≤ n ∧ i = .int .i64 k ∧ acc.length ≤ k ∧ Hid (H = acc ++ (hits sec key k (l.drop k)).map Prod.snd) ∧ Cl pa gv wr ∧ Hid (wr.ownsRow W0.heap.size 9 1 gv acc.length (acc.map Value.string)) ∧ Mv (Td W0.heap.size pa) W0 wr) (fun i _ => n - (intOf i).toNat)
  case atStart => exact ⟨0, _, [], by omega, rfl, by simp, by show _ = _; rw [List.drop_zero]; exact hHH.out.symm, caH.out, World.ownsRow_nil _ _ _ _, Mv.refl _ _⟩
  case round =>
    obtain ⟨k, gv, acc, hk, rfl, hal, hacc, hcl, ho, hm⟩ := hrel
    by_cases hlt : k < n
    · obtain ⟨gb, o, rfl, hgb, hst⟩ := hs1 (by omega)
      obtain ⟨x, hx⟩ : ∃ x, l[k]? = some x := ⟨_, List.getElem?_eq_getElem (by rw [hN.out]; exact hlt)⟩
      rw [dropS hx] at hacc
      have hgl : gb < W0.heap.size := cell_lt (hst k x hx).c0
      obtain ⟨p0, p1, p2, p3⟩ := (hst k x hx).mv hm (hTd _ hgb hgl)
      have c2 := hm.cell f2 d2
      have c3 := hm.cell f3 d3
      have hkI : (k : Int) < (n : Int) := by omega
      have hms := hm.size
      obtain ⟨U1, hU1⟩ : ∃ U1, wr.alloc (.cells #[.string x.s, .string x.k, .string x.v, .int .i64 x.n] 44) = U1 := ⟨_, rfl⟩
      have mU1 : ∀ F, Mv F wr U1 := fun F => by rw [← hU1]; exact Mv.alloc _ _ _
      have x0 : U1.cell? ⟨wr.heap.size, 0, none⟩ = some (.string x.s) := by rw [← hU1]; exact cell_at rfl rfl
      have x1 : U1.cell? ⟨wr.heap.size, 1, none⟩ = some (.string x.k) := by rw [← hU1]; exact cell_at rfl rfl
      have x2 : U1.cell? ⟨wr.heap.size, 2, none⟩ = some (.string x.v) := by rw [← hU1]; exact cell_at rfl rfl
      have y2 := (mU1 (fun _ => False)).cell (fun h => h) c2
      have y3 := (mU1 (fun _ => False)).cell (fun h => h) c3
      have hmU := hm.trans' (mU1 _)
      have hclU := hcl.mv (mU1 (fun _ => False)) (fun h => h)
      have hoU := own_mv ho.out (mU1 (fun _ => False)) (fun _ _ h => h)
      have hoUH : Hid (U1.ownsRow W0.heap.size 9 1 gv acc.length (acc.map Value.string)) := hoU
      clear hst hx hs1 hoU
      by_cases e1 : x.s = sec
      · have e1b : (x.s.toList == sec.toList) = true := by rw [str_eq', e1]; simp
        by_cases e2 : x.k = key
        · have e2b : (x.k.toList == key.toList) = true := by rw [str_eq', e2]; simp
          rw [hits_yes e1 e2] at hacc
          have hacc2 : Hid (H = (acc ++ [x.v]) ++ (hits sec key (k + 1) (l.drop (k + 1))).map Prod.snd) := by show _ = _; rw [hacc.out]; simp
          have hcall := drops1_any W0.heap.size pa k x.v gv acc U1 (by have := (mU1 (fun _ => False)).size; omega) hpa hclU hoUH.out (by omega)
          have hcallH : Hid (Calls Tryd.prog 23 #[.int .i64 k, .string x.v, .pointer (some ⟨pa, 0, none⟩)] U1 fun e W' => e = .returned (.bool true) ∧ ∃ v', Cl pa v' W' ∧ W'.ownsRow W0.heap.size 9 1 v' (acc.length + 1) ((acc ++ [x.v]).map Value.string) ∧ Mv (Td W0.heap.size pa) U1 W') := hcall
          clear e1 e2 hcall hacc
          go_wp2_with (first | rw [hU1] | (go_at_call 23; refine hcallH.out.mono ?_; rintro e w' ⟨rfl, v', hca, hown, hmv⟩))
          exact ⟨⟨k + 1, v', acc ++ [x.v], by omega, by go_num, by simp; omega, hacc2, hca, by rw [List.length_append]; exact hown, hmU.trans' hmv⟩, by simp [intOf]; omega⟩
        · have e2b : (x.k.toList == key.toList) = false := by rw [str_eq', decide_eq_false e2]
          rw [hits_no (fun h => e2 h.2)] at hacc
          clear e1 e2
          go_wp2_with (rw [hU1])
          exact ⟨⟨k + 1, gv, acc, by omega, by go_num, by omega, hacc, hclU, hoUH, hmU⟩, by simp [intOf]; omega⟩
      · have e1b : (x.s.toList == sec.toList) = false := by rw [str_eq', decide_eq_false e1]
        rw [hits_no (fun h => e1 h.1)] at hacc
        clear e1
        go_wp2_with (rw [hU1])
        exact ⟨⟨k + 1, gv, acc, by omega, by go_num, by omega, hacc, hclU, hoUH, hmU⟩, by simp [intOf]; omega⟩
    · obtain rfl : k = n := by omega
      have hkI : ¬ ((k : Int) < (k : Int)) := by omega
      have hfin : Hid (acc = H) := by
        have := hacc.out
        rw [List.drop_of_length_le (by rw [hN.out]; omega)] at this
        show _ = _
        rw [this]; simp [hits]
      go_wp2_with fail
      refine bodyPost_end (v := .tuple #[]) (by simp [results, Tryd.results44, go_sem]) rfl ?_
      exact ⟨rfl, gv, hcl, by rw [← hfin.out]; exact ho.out, hm⟩
end Go.Proofs.YtiinhfbfciccnaaDoor
/- Plain mathematics of merging: from the end on, and from the front. -/
namespace Go.Proofs.YtiinhfbfciccnaaDoor
/-- An empty value of the heading of y stands in l. -/
def anyE (l : List St) (y : St) : Bool := l.any fun z => decide (z.v = ⟨#[]⟩ ∧ z.s = y.s ∧ z.k = y.k)
/-- What is kept. -/
def kp : List St → List St
  | [] => []
  | x :: r => if x.v = ⟨#[]⟩ ∨ anyE r x = true then kp r else x :: kp r
theorem kp_no {x : St} {r : List St} (h : x.v = ⟨#[]⟩ ∨ anyE r x = true) : kp (x :: r) = kp r := if_pos h
theorem kp_yes {x : St} {r : List St} (h1 : ¬ x.v = ⟨#[]⟩) (h2 : anyE r x = false) : kp (x :: r) = x :: kp r := if_neg (fun h => h.elim h1 (fun e => by rw [h2] at e; cases e))
theorem fold_kp (l : List St) : (l.reverse.foldl stp ([], [])).2.reverse = kp l ∧ ∀ a c, inE (l.reverse.foldl stp ([], [])).1 a c = l.any fun z => decide (z.v = ⟨#[]⟩ ∧ z.s = a ∧ z.k = c) := by
  induction l with
  | nil => exact ⟨rfl, fun _ _ => rfl⟩
  | cons x r ih =>
    rw [List.reverse_cons, List.foldl_append]
    simp only [List.foldl_cons, List.foldl_nil]
    obtain ⟨ih1, ih2⟩ := ih
    generalize List.foldl stp ([], []) r.reverse = p at ih1 ih2
    unfold stp
    by_cases hv : x.v = ⟨#[]⟩
    · rw [if_pos hv, kp_no (.inl hv)]
      refine ⟨ih1, fun a c => ?_⟩
      have := ih2 a c
      unfold inE at this ⊢
      simp only [List.any_cons, this, hv, true_and]
    · rw [if_neg hv]
      have hin : inE p.1 x.s x.k = anyE r x := ih2 x.s x.k
      rw [hin]
      have h2 : ∀ a c, ((x :: r).any fun z => decide (z.v = ⟨#[]⟩ ∧ z.s = a ∧ z.k = c)) = (r.any fun z => decide (z.v = ⟨#[]⟩ ∧ z.s = a ∧ z.k = c)) := fun a c => by simp [hv]
      cases ha : anyE r x
      · rw [kp_yes hv ha, if_neg (by simp)]
        exact ⟨by simp [ih1], fun a c => by rw [ih2, h2]⟩
      · rw [kp_no (.inr ha), if_pos rfl]
        exact ⟨ih1, fun a c => by rw [ih2, h2]⟩
/-- One setting more, from the front. -/
def stepR (out : List St) (x : St) : List St := if x.v = ⟨#[]⟩ then out.filter (fun y => !decide (y.s = x.s ∧ y.k = x.k)) else out ++ [x]
theorem foldR : ∀ (l out : List St), l.foldl stepR out = out.filter (fun y => !anyE l y) ++ kp l
  | [], out => by
    have : out.filter (fun y => !anyE [] y) = out := List.filter_eq_self.2 (fun _ _ => rfl)
    rw [this, kp, List.append_nil]; rfl
  | x :: r, out => by
    rw [List.foldl_cons, foldR r]
    unfold stepR
    by_cases hv : x.v = ⟨#[]⟩
    · rw [if_pos hv, kp_no (.inl hv), List.filter_filter]
      congr 1
      refine List.filter_congr (fun y _ => ?_)
      have e : decide (x.s = y.s ∧ x.k = y.k) = decide (y.s = x.s ∧ y.k = x.k) := by
        rw [decide_eq_decide]; constructor <;> (rintro ⟨h1, h2⟩; exact ⟨h1.symm, h2.symm⟩)
      simp only [anyE, List.any_cons, hv, true_and, e, Bool.not_or, Bool.and_comm]
    · rw [if_neg hv, List.filter_append]
      have h2 : ∀ y, anyE (x :: r) y = anyE r y := fun y => by simp [anyE, hv]
      simp only [h2]
      cases ha : anyE r x
      · rw [kp_yes hv ha]; simp [ha]
      · rw [kp_no (.inr ha)]; simp [ha]
/-- Merging from the end on is merging from the front. -/
theorem merge_front (l : List St) : (l.reverse.foldl stp ([], [])).2.reverse = l.foldl stepR [] := by
  rw [(fold_kp l).1, foldR]; simp
/-- The values of one section and key. -/
def vals (sec key : ByteArray) (l : List St) : List ByteArray := (l.filter fun x => decide (x.s = sec ∧ x.k = key)).map (·.v)
theorem hits_vals (sec key : ByteArray) : ∀ (l : List St) (i : Nat), (hits sec key i l).map Prod.snd = vals sec key l
  | [], _ => rfl
  | x :: r, i => by
    unfold hits vals
    have ih := hits_vals sec key r (i + 1)
    by_cases h : x.s = sec ∧ x.k = key
    · rw [if_pos h, List.filter_cons, if_pos (by simpa using h)]
      simp only [List.map_cons, ih]; rfl
    · rw [if_neg h, List.filter_cons, if_neg (by simpa using h), ih]; rfl
/-- The values that stay, one setting after the other. -/
def stepW (sec key : ByteArray) (acc : List ByteArray) (x : St) : List ByteArray := if x.s = sec ∧ x.k = key then (if x.v = ⟨#[]⟩ then [] else acc ++ [x.v]) else acc
theorem vals_step (sec key : ByteArray) (out : List St) (x : St) : vals sec key (stepR out x) = stepW sec key (vals sec key out) x := by
  unfold stepR stepW vals
  by_cases hv : x.v = ⟨#[]⟩
  · rw [if_pos hv, List.filter_filter]
    by_cases hm : x.s = sec ∧ x.k = key
    · rw [if_pos hm, if_pos hv, ← hm.1, ← hm.2]
      have : (List.filter (fun a => decide (a.s = x.s ∧ a.k = x.k) && !decide (a.s = x.s ∧ a.k = x.k)) out) = [] := by
        rw [List.filter_eq_nil_iff]; intro a _; simp
      rw [this]; rfl
    · rw [if_neg hm]
      congr 1
      refine List.filter_congr (fun y _ => ?_)
      by_cases h : y.s = sec ∧ y.k = key
      · have : ¬ (y.s = x.s ∧ y.k = x.k) := fun e => hm ⟨by rw [← e.1, h.1], by rw [← e.2, h.2]⟩
        simp [this]
      · simp [h]
  · rw [if_neg hv]
    by_cases hm : x.s = sec ∧ x.k = key
    · rw [if_pos hm, if_neg hv, List.filter_append, List.map_append]; simp [hm]
    · rw [if_neg hm, List.filter_append]; simp [hm]
theorem vals_fold (sec key : ByteArray) : ∀ (l out : List St), vals sec key (l.foldl stepR out) = l.foldl (stepW sec key) (vals sec key out)
  | [], _ => rfl
  | x :: r, out => by rw [List.foldl_cons, List.foldl_cons, vals_fold sec key r, vals_step]
theorem lastV_eq : ∀ (h : List (Nat × ByteArray)) (s : ByteArray × Bool), lastV h s = match (h.map Prod.snd).getLast? with | some v => (v, true) | none => s
  | [], s => rfl
  | p :: r, s => by
    rw [lastV, lastV_eq r]
    cases hr : r with
    | nil => rfl
    | cons q t =>
      simp only [List.map_cons]
      rw [List.getLast?_cons_cons]
      cases hl : (q.2 :: List.map Prod.snd t).getLast? with
      | none => simp at hl
      | some v => rfl
end Go.Proofs.YtiinhfbfciccnaaDoor
