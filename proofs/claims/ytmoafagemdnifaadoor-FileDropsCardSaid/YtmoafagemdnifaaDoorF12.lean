/- The row that unitfile.values makes of settings: the places and values of one section and key; the contract of Last. -/
import Derived.Test.YtmoafagemdnifaaDoorF4a
import Derived.Test.YtmoafagemdnifaaDoorA4
namespace Go.Proofs.YtmoafagemdnifaaDoor
open Go.RowKit Go.Shelf
attribute [local go_sem] Oper.semAt_some
theorem str_eq' (a b : ByteArray) : (a.toList == b.toList) = decide (a = b) := by
  rw [Lib.toList_data, Lib.toList_data]
  by_cases h : a = b
  · rw [h]; simp
  · rw [decide_eq_false h]
    have : a.data.toList ≠ b.data.toList := fun e => h (by rw [← Lib.mk_data a, e, Lib.mk_data])
    simpa using this
/-- The places and values of one section and key. -/
def hits (sec key : ByteArray) : Nat → List St → List (Nat × ByteArray)
  | _, [] => []
  | i, x :: r => if x.s = sec ∧ x.k = key then (i, x.v) :: hits sec key (i + 1) r else hits sec key (i + 1) r
theorem hits_yes {sec key : ByteArray} {i : Nat} {x : St} {r : List St} (h1 : x.s = sec) (h2 : x.k = key) : hits sec key i (x :: r) = (i, x.v) :: hits sec key (i + 1) r := by simp [hits, h1, h2]
theorem hits_no {sec key : ByteArray} {i : Nat} {x : St} {r : List St} (h : ¬ (x.s = sec ∧ x.k = key)) : hits sec key i (x :: r) = hits sec key (i + 1) r := by simp only [hits, if_neg h]
def encV (p : Nat × ByteArray) : Array Value := #[.int .i64 p.1, .string p.2]
theorem dropS {l : List St} {k : Nat} {x : St} (h : l[k]? = some x) : l.drop k = x :: l.drop (k + 1) := by
  obtain ⟨h1, h2⟩ := List.getElem?_eq_some_iff.1 h
  rw [List.drop_eq_getElem_cons h1, h2]
/-- What values has captured. -/
structure VBox (E : Nat → Prop) (W : World) (b1 b2 b3 : Nat) (v : Value) (sec key : ByteArray) (l : List St) : Prop where
  c1 : W.cell? ⟨b1, 0, none⟩ = some v
  e1 : ¬ E b1
  c2 : W.cell? ⟨b2, 0, none⟩ = some (.string sec)
  e2 : ¬ E b2
  c3 : W.cell? ⟨b3, 0, none⟩ = some (.string key)
  e3 : ¬ E b3
  sl : SlIs E W v l
theorem VBox.mv {E E' : Nat → Prop} {W V : World} {b1 b2 b3 : Nat} {v : Value} {sec key : ByteArray} {l : List St} (h : VBox E W b1 b2 b3 v sec key l) (m : Mv E W V) (g : Gr E W E') : VBox E' V b1 b2 b3 v sec key l :=
  ⟨m.cell h.e1 h.c1, g.free (cell_lt h.c1) h.e1, m.cell h.e2 h.c2, g.free (cell_lt h.c2) h.e2, m.cell h.e3 h.c3, g.free (cell_lt h.c3) h.e3, h.sl.mv m g⟩
set_option maxRecDepth 100000 in
set_option maxHeartbeats 4000000 in
theorem values1_row (l : List St) (b1 b2 b3 : Nat) (v : Value) (sec key : ByteArray) (E : Nat → Prop) (W : World) (hb : VBox E W b1 b2 b3 v sec key l) (hl : l.length ≤ 1000000000) :
    Row Tryd.prog 44 #[.pointer (some ⟨b1, 0, none⟩), .pointer (some ⟨b2, 0, none⟩), .pointer (some ⟨b3, 0, none⟩)] encV (hits sec key 0 l) E W := by
  intro u J Jx E1 V m g hJ hJx hY h0
  have hb1 := hb.mv m g
  have d1 := hb1.c1
  have d2 := hb1.c2
  have d3 := hb1.c3
  obtain ⟨a, cap, rfl, hs1⟩ := id hb1.sl
  obtain ⟨n, hn⟩ : ∃ n, l.length = n := ⟨_, rfl⟩
  rw [hn] at d1 hs1 hl
  have hN : Hid (l.length = n) := hn
  have f2 := hb1.e2
  have f3 := hb1.e3
  have hlow := hJ.low _ _ _ h0
  clear hn hb hb1
  refine (callsIn_wide (n := 5)).1 ?_
  refine callsIn_of_wp Tryd.func44 rfl trivial ?_ rfl
  simp only [Tryd.ntmps44, List.size_toArray, List.length_cons, List.length_nil, Nat.reduceAdd, Nat.reduceSub, Array.replicate_succ, Array.replicate_zero, List.push_toArray, List.append_toArray, List.nil_append, List.cons_append]
  gi_wp2
  gi_loopw [9] (fun i wr => ∃ (k : Nat) (E2 : Nat → Prop), k ≤ n ∧ i = .int .i64 k ∧ J (hits sec key k (l.drop k)) E2 wr ∧ Mv E1 V wr ∧ Gr E1 V E2) (fun i _ => n - (intOf i).toNat)
  case atStart => exact ⟨0, E1, by omega, rfl, by rw [List.drop_zero]; exact h0, Mv.refl _ _, Gr.refl _ _⟩
  case round =>
    obtain ⟨k, E2, hk, rfl, hj, hm, hg⟩ := hrel
    by_cases hlt : k < n
    · obtain ⟨gb, o, rfl, hgb, hst⟩ := hs1 (by omega)
      obtain ⟨x, hx⟩ : ∃ x, l[k]? = some x := ⟨_, List.getElem?_eq_getElem (by rw [hN.out]; exact hlt)⟩
      rw [dropS hx] at hj
      obtain ⟨p0, p1, p2, p3⟩ := (hst k x hx).mv hm hgb
      have c2 := hm.cell f2 d2
      have c3 := hm.cell f3 d3
      have hkI : (k : Int) < (n : Int) := by omega
      obtain ⟨U1, hU1⟩ : ∃ U1, wr.alloc (.cells #[.string x.s, .string x.k, .string x.v, .int .i64 x.n] 44) = U1 := ⟨_, rfl⟩
      have mU1 : ∀ F, Mv F wr U1 := fun F => by rw [← hU1]; exact Mv.alloc _ _ _
      have x0 : U1.cell? ⟨wr.heap.size, 0, none⟩ = some (.string x.s) := by rw [← hU1]; exact cell_at rfl rfl
      have x1 : U1.cell? ⟨wr.heap.size, 1, none⟩ = some (.string x.k) := by rw [← hU1]; exact cell_at rfl rfl
      have x2 : U1.cell? ⟨wr.heap.size, 2, none⟩ = some (.string x.v) := by rw [← hU1]; exact cell_at rfl rfl
      have y2 := (mU1 (fun _ => False)).cell (fun h => h) c2
      have y3 := (mU1 (fun _ => False)).cell (fun h => h) c3
      have hjU := hJ.keep _ _ _ _ hj (mU1 _)
      have hmU := hm.trans' (mU1 _)
      clear hst hx hs1
      by_cases e1 : x.s = sec
      · have e1b : (x.s.toList == sec.toList) = true := by rw [str_eq', e1]; simp
        by_cases e2 : x.k = key
        · have e2b : (x.k.toList == key.toList) = true := by rw [str_eq', e2]; simp
          rw [hits_yes e1 e2] at hjU
          obtain ⟨fn, tmps, assign, body, hy, hR⟩ := hY (k, x.v) _ E2 U1 hjU
          dsimp only [encV] at hy
          clear e1 e2
          gi_wp2_with (rw [hU1])
          refine (wide_round' hR).mono ?_
          rintro e W3 ⟨m3, (⟨rfl, E3, g3, hj3⟩ | ⟨rfl, E3, g3, hj3⟩)⟩
          · gi_wp2
            exact ⟨⟨k + 1, E3, by omega, by go_num, hj3, hmU.trans hg m3, hg.trans hmU.size g3⟩, by simp [intOf]; omega⟩
          · gi_wp2
            refine bodyPost_ret (results_none rfl _ _ _) rfl ?_
            exact ⟨⟨_, rfl⟩, hmU.trans hg m3, .inr ⟨E3, hg.trans hmU.size g3, hj3⟩⟩
        · have e2b : (x.k.toList == key.toList) = false := by rw [str_eq', decide_eq_false e2]
          rw [hits_no (fun h => e2 h.2)] at hjU
          clear e1 e2
          gi_wp2_with (rw [hU1])
          refine ⟨fun _ h => (by cases h), ?_⟩
          gi_wp2_with fail
          exact ⟨⟨k + 1, E2, by omega, by go_num, hjU, hmU, hg⟩, by simp [intOf]; omega⟩
      · have e1b : (x.s.toList == sec.toList) = false := by rw [str_eq', decide_eq_false e1]
        rw [hits_no (fun h => e1 h.1)] at hjU
        clear e1
        gi_wp2_with (rw [hU1])
        refine ⟨fun _ h => (by cases h), ?_⟩
        gi_wp2_with fail
        exact ⟨⟨k + 1, E2, by omega, by go_num, hjU, hmU, hg⟩, by simp [intOf]; omega⟩
    · obtain rfl : k = n := by omega
      rw [List.drop_of_length_le (by rw [hN.out]; omega)] at hj
      have hkI : ¬ ((k : Int) < (k : Int)) := by omega
      gi_wp2
      go_end0
      exact ⟨⟨_, rfl⟩, hm, .inl ⟨E2, hg, hj⟩⟩
set_option maxHeartbeats 1000000 in
theorem values_any (a : Option Addr) (n c : Nat) (sec key : ByteArray) (w : World) : Calls Tryd.prog 32 #[.slice a n c, .string sec, .string key] w fun e w' => e = .returned (.func (.func 44) #[] #[.pointer (some ⟨w.heap.size, 0, none⟩), .pointer (some ⟨w.heap.size + 1, 0, none⟩), .pointer (some ⟨w.heap.size + 1 + 1, 0, none⟩)]) ∧ w' = ((w.alloc (.cells #[.slice a n c] 23)).alloc (.cells #[.string sec] 9)).alloc (.cells #[.string key] 9) := by
  go_enter Tryd.func32, Tryd.ntmps32
  go_wp2
  go_ret
  exact ⟨rfl, rfl⟩
theorem vbox_new (a : Option Addr) (n c : Nat) (sec key : ByteArray) (l : List St) (w : World) (E : Nat → Prop) (hE : ∀ k, E k → k < w.heap.size) (hs : SlIs E w (.slice a n c) l) :
    VBox E (((w.alloc (.cells #[.slice a n c] 23)).alloc (.cells #[.string sec] 9)).alloc (.cells #[.string key] 9)) w.heap.size (w.heap.size + 1) (w.heap.size + 1 + 1) (.slice a n c) sec key l := by
  have nE : ∀ k, w.heap.size ≤ k → ¬ E k := fun k hk h => by have := hE k h; omega
  refine ⟨?_, nE _ (Nat.le_refl _), ?_, nE _ (by omega), cell_at (by simp) rfl, nE _ (by omega), hs.mv (((Mv.alloc _ _ _).trans' (Mv.alloc _ _ _)).trans' (Mv.alloc _ _ _)) (Gr.refl _ _)⟩
  · exact ((Mv.alloc (fun _ => False) _ _).trans' (Mv.alloc _ _ _)).cell (fun h => h) (cell_at rfl rfl)
  · exact (Mv.alloc (fun _ => False) _ _).cell (fun h => h) (cell_at (by simp) rfl)
/-- The last value, and whether there is one. -/
def lastV : List (Nat × ByteArray) → ByteArray × Bool → ByteArray × Bool
  | [], s => s
  | p :: r, _ => lastV r (p.2, true)
/-- The two variables of Last. -/
structure LVar (b : Nat) (s : ByteArray × Bool) (W : World) : Prop where
  c0 : Cl b (.string s.1) W
  c1 : Cl (b + 1) (.bool s.2) W
def LI2 (b : Nat) (T : ByteArray × Bool) (rest : List (Nat × ByteArray)) (E : Nat → Prop) (W : World) : Prop := ∃ s, ((∀ k, E k ↔ (k = b ∨ k = b + 1)) ∧ Hid (lastV rest s = T)) ∧ LVar b s W
theorem LI2.ter (b B : Nat) (T : ByteArray × Bool) : Ter B (LI2 b T) := by
  refine ⟨?_, ?_⟩
  · rintro s E W V ⟨x, ⟨hE, h⟩, hv⟩ m
    exact ⟨x, ⟨hE, h⟩, hv.c0.mv m (fun h => h.1 ((hE _).2 (.inl rfl))), hv.c1.mv m (fun h => h.1 ((hE _).2 (.inr rfl)))⟩
  · rintro s E W ⟨x, ⟨hE, h⟩, hv⟩ k hk
    rcases (hE k).1 hk with rfl | rfl
    · exact hv.c0.lt
    · exact hv.c1.lt
set_option maxRecDepth 100000 in
set_option maxHeartbeats 4000000 in
theorem last_any (v : Value) (l : List St) (sec key : ByteArray) (w : World) (hs : SlIs (fun _ => False) w v l) (hl : l.length ≤ 1000000000) (T : ByteArray × Bool) (hT : lastV (hits sec key 0 l) (⟨#[]⟩, false) = T) :
    Calls Tryd.prog 18 #[.agg #[v], .string sec, .string key] w fun e w' => e = .returned (.tuple #[.string T.1, .bool T.2]) ∧ Below w.heap.size w w' := by
  have hTH : Hid (lastV (hits sec key 0 l) (⟨#[]⟩, false) = T) := hT
  obtain ⟨a, c, rfl, hs1⟩ := id hs
  obtain ⟨n, hn⟩ : ∃ n, l.length = n := ⟨_, rfl⟩
  rw [hn] at hs ⊢
  obtain ⟨W0, hW0⟩ : ∃ W0, ((w.alloc (.cells #[.slice a n c] 25)).alloc (.cells #[.string ⟨#[]⟩] 9)).alloc (.cells #[.bool false] 4) = W0 := ⟨_, rfl⟩
  have hs0 : W0.heap.size = w.heap.size + 3 := by rw [← hW0]; simp
  have m0 : ∀ F : Nat → Prop, Mv F w W0 := fun F => by rw [← hW0]; exact ((Mv.alloc _ _ _).trans' (Mv.alloc _ _ _)).trans' (Mv.alloc _ _ _)
  have q0 : W0.cell? ⟨w.heap.size, 0, none⟩ = some (.slice a n c) := by rw [← hW0]; exact ((Mv.alloc (fun _ => False) _ _).trans' (Mv.alloc _ _ _)).cell (fun h => h) (cell_at rfl rfl)
  have k0 : Cl (w.heap.size + 1) (.string ⟨#[]⟩) W0 := by
    rw [← hW0]
    refine Cl.mv (E := fun _ => False) (W := (w.alloc (.cells #[.slice a n c] 25)).alloc (.cells #[.string ⟨#[]⟩] 9)) ⟨cell_at (by simp) rfl, ?_⟩ (Mv.alloc _ _ _) (fun h => h)
    rw [← World.size_alloc w (.cells #[.slice a n c] 25)]
    exact World.frozen?_alloc_new _ _ _ _
  have k1 : Cl (w.heap.size + 1 + 1) (.bool false) W0 := by
    rw [← hW0]
    refine ⟨cell_at (by simp) rfl, ?_⟩
    have := World.frozen?_alloc_new ((w.alloc (.cells #[.slice a n c] 25)).alloc (.cells #[.string ⟨#[]⟩] 9)) #[.bool false] 4 0
    simpa using this
  clear hT hs1
  refine (callsIn_wide (n := 5)).1 ?_
  refine callsIn_of_wp_marks Tryd.func18 rfl trivial ?_ rfl
  simp only [Tryd.ntmps18, List.size_toArray, List.length_cons, List.length_nil, Nat.reduceAdd, Nat.reduceSub, Array.replicate_succ, Array.replicate_zero, List.push_toArray, List.append_toArray, List.nil_append, List.cons_append]
  have k0c := k0.c
  have k0f := k0.f
  have k1o := k1.oth (j := w.heap.size + 1) (by omega) (.string ⟨#[]⟩)
  have k1c := k1o.c
  have k1f := k1o.f
  obtain ⟨V0, hV0⟩ : ∃ V0, (W0.setCell ⟨w.heap.size + 1, 0, none⟩ (.string ⟨#[]⟩)).setCell ⟨w.heap.size + 1 + 1, 0, none⟩ (.bool false) = V0 := ⟨_, rfl⟩
  have mV0 : Mv (fun k => k = w.heap.size + 1 ∨ k = w.heap.size + 1 + 1) W0 V0 := by rw [← hV0]; exact ((Mv.refl _ _).setc (p := ⟨w.heap.size + 1, 0, none⟩) (.inl (.inl rfl)) _).setc (p := ⟨w.heap.size + 1 + 1, 0, none⟩) (.inl (.inr rfl)) _
  have c0 : Cl (w.heap.size + 1) (.string ⟨#[]⟩) V0 := by rw [← hV0]; exact (k0.set _).oth (j := w.heap.size + 1 + 1) (by omega) _
  have c1 : Cl (w.heap.size + 1 + 1) (.bool false) V0 := by rw [← hV0]; exact k1o.set _
  have q1 := mV0.cell (show ¬ (w.heap.size = w.heap.size + 1 ∨ w.heap.size = w.heap.size + 1 + 1) by omega) q0
  have hsV : V0.heap.size = w.heap.size + 3 := by rw [← hV0, ← hs0]; simp
  have hsV2 : Hid (V0.heap.size = w.heap.size + 3) := hsV
  have mwV : ∀ F : Nat → Prop, (∀ k, F k → w.heap.size ≤ k) → Mv F w V0 := fun F hF => ⟨mV0.os.trans (m0 F).os, mV0.tape.trans (m0 F).tape, mV0.output.trans (m0 F).output, by omega, fun k hk _ => (mV0.block k (by omega) (by omega)).trans ((m0 (fun _ => False)).block k hk (fun h => h))⟩
  clear hsV
  gi_wp2_with (first | rw [hW0] | rw [hV0])
  refine ⟨trivial, (callsIn_wide.2 (values_any a n c sec key V0)).mono ?_⟩
  rintro e W1 ⟨rfl, hW1⟩
  obtain ⟨E, hE⟩ : ∃ E : Nat → Prop, ∀ k, E k ↔ (k = w.heap.size + 1 ∨ k = w.heap.size + 1 + 1) := ⟨_, fun _ => Iff.rfl⟩
  have hslV : SlIs E V0 (.slice a n c) l := by
    obtain ⟨a', c', hv, h1⟩ := hs
    refine SlIs.mv (E := E) (W := w) ⟨a', c', hv, fun h0 => ?_⟩ (mwV E (fun k hk => by rcases (hE k).1 hk with h | h <;> omega)) (Gr.refl _ _)
    obtain ⟨g, o, e1, _, e2⟩ := h1 h0
    have hgl : g < w.heap.size := cell_lt (e2 0 _ (List.getElem?_eq_getElem h0)).c0
    exact ⟨g, o, e1, fun h => by rcases (hE g).1 h with h | h <;> omega, e2⟩
  have hlowE : ∀ k, E k → k < V0.heap.size := fun k hk => by have := hsV2.out; rcases (hE k).1 hk with h | h <;> omega
  have hrow := values1_row l _ _ _ (.slice a n c) sec key E W1 (by rw [hW1]; exact vbox_new a n c sec key l V0 E hlowE hslV) hl
  have m1 : ∀ F : Nat → Prop, Mv F V0 W1 := fun F => by rw [hW1]; exact ((Mv.alloc _ _ _).trans' (Mv.alloc _ _ _)).trans' (Mv.alloc _ _ _)
  have hs1 : W1.heap.size = V0.heap.size + 3 := by rw [hW1]; simp
  have hs1H : Hid (W1.heap.size = V0.heap.size + 3) := hs1
  clear hW1 hs1
  have tI : Ter W1.heap.size (LI2 (w.heap.size + 1) T) := LI2.ter _ _ _
  have h0I : LI2 (w.heap.size + 1) T (hits sec key 0 l) E W1 := ⟨(⟨#[]⟩, false), ⟨hE, hTH⟩, c0.mv (m1 (fun _ => False)) (fun h => h), c1.mv (m1 (fun _ => False)) (fun h => h)⟩
  gi_wp2_with fail
  refine loop_out (gf := 44) (lb := #[.pointer (some ⟨V0.heap.size, 0, none⟩), .pointer (some ⟨V0.heap.size + 1, 0, none⟩), .pointer (some ⟨V0.heap.size + 1 + 1, 0, none⟩)]) rfl (enters_of Tryd.func44 (by kernel_rfl) rfl) hrow (fun _ => rfl) (LI2 (w.heap.size + 1) T) MX tI (MX.ter _) h0I ?round ?done ?stop
  case stop => rintro D c' E2 U _ _ _ _ _ h; exact h.elim
  case round =>
    rintro l1 hl1 ⟨i, y⟩ rest E2 U hi hm hgr hEl hrec
    simp only [encV]
    gi_wp2
    refine ⟨⟨Mv.refl _ _, trivial⟩, fun U2 tw => ?_⟩
    obtain ⟨⟨s, ⟨hE2, hx⟩, hv⟩, hm2⟩ := tw.go tI hi (Mv.refl _ _) hm (Nat.le_refl _) (by omega) hEl
    have a0 := hv.c0.c
    have a1 := hv.c0.f
    have o1 := hv.c1.oth (j := w.heap.size + 1) (by omega) (.string y)
    have a2 := o1.c
    have a3 := o1.f
    clear hi hm tw hrec
    gi_wp2_with fail
    refine ⟨((Mv.refl _ _).setc (p := ⟨w.heap.size + 1, 0, none⟩) (.inl ((hE2 _).2 (.inl rfl))) _).setc (p := ⟨w.heap.size + 1 + 1, 0, none⟩) (.inl ((hE2 _).2 (.inr rfl))) _, E2, Gr.refl _ _, (y, true), ⟨hE2, hx⟩, (hv.c0.set _).oth (j := w.heap.size + 1 + 1) (by omega) _, o1.set _⟩
  case done =>
    rintro D E2 U hD hK hnD hm hgr ⟨s, ⟨hE2, hx⟩, hv⟩
    obtain rfl : s = T := hx.out
    have a0 := hv.c0.c
    have a2 := hv.c1.c
    have hbU : Below w.heap.size w U := ((mwV (fun _ => False) (fun _ h => h.elim)).toBelow (Nat.le_refl _) (fun _ _ h => h)).trans ((((m1 (fun _ => False)).toBelow (by have := hsV2.out; omega) (fun _ _ h => h))).trans (hm.toBelow (by have := hsV2.out; have := hs1H.out; omega) (fun k hk h => by rcases (hE k).1 h with h | h <;> omega)))
    gi_wp2_with fail
    refine wpIn_wide.2 ?_
    go_quiet (fail)
    gi_wp2_with fail
    refine ⟨by simp, .inl ⟨_, _, rfl, run_takeDeferred (w := U.drewN _) hK, ?_⟩⟩
    refine ⟨.tuple #[.string s.1, .bool s.2], by simp [results, Tryd.results18, go_sem], rfl, ?_⟩
    exact (below_drewN hbU _).trans ((Mv.put (E := fun k => k = D) rfl _).toBelow (by have := hbU.size; exact this) (fun k hk e => by have := hsV2.out; have := hs1H.out; omega))
end Go.Proofs.YtmoafagemdnifaaDoor
