/- The walk of the law LineReads. -/
import Derived.Test.YtcihilaofehomaaDoorR11
import Derived.Test.YtcihilaofehomaaDoorK1
namespace Go.Proofs.YtcihilaofehomaaDoor
open Go.RowKit Lin
theorem Mx.mv {w w' : World} {E : Nat → Prop} (h : Mx w) (m : Mv E w w') (hE : ¬ E 0) : Mx w' := by
  obtain ⟨mx, hmx⟩ := h
  exact ⟨mx, m.cell hE hmx⟩
theorem Cl.below {i : Nat} {v : Value} {W V : World} (h : Cl i v W) (hb : Below W.heap.size W V) : Cl i v V := h.mv (E := fun _ => False) (Mv.below hb) (fun h => h)
theorem Cl.new (W : World) (v : Value) (t : TypeId) : Cl W.heap.size v (W.alloc (.cells #[v] t)) := ⟨cell_at rfl rfl, World.frozen?_alloc_new _ _ _ _⟩
theorem Cl.alloc {i : Nat} {v : Value} {W : World} (h : Cl i v W) (o : Obj) : Cl i v (W.alloc o) := h.mv (E := fun _ => False) (Mv.alloc _ _ _) (fun h => h)
theorem LnAt.mv2 {w w' : World} {b : Nat} {l : List Ln} {E : Nat → Prop} (h : LnAt w b l) (m : Mv E w w') (hE : 0 < l.length → ¬ E b) : LnAt w' b l := fun j x hj => by
  have hl := (List.getElem?_eq_some_iff.1 hj).1
  have he := hE (by omega)
  obtain ⟨h0, h1, h2, h3⟩ := h j x hj
  exact ⟨m.cell he h0, m.cell he h1, m.cell he h2, m.cell he h3⟩
theorem LnAt.lt {w : World} {b : Nat} {l : List Ln} (h : LnAt w b l) (hl : 0 < l.length) : b < w.heap.size := by
  obtain ⟨x, hx⟩ : ∃ x, l[0]? = some x := ⟨_, List.getElem?_eq_getElem hl⟩
  exact cell_lt (h 0 x hx).1
set_option maxRecDepth 100000 in
set_option maxHeartbeats 8000000 in
theorem reads_walk (s : ByteArray) (st : Int) (w : World) (hg : Mx w) (_h1 : -9223372036854775808 ≤ st) (_h2 : st ≤ 9223372036854775807) :
    Calls Tryd.prog 3 #[.string s, .int .i64 st] w fun e w' => e = .returned (.bool true) ∧ Below w.heap.size w w' := by
  have hb0 : Below w.heap.size w (w.alloc (.cells #[.int .i64 st] 3)) := (Below.refl _ _).alloc (Nat.le_refl _) _
  have c0 : Cl w.heap.size (.int .i64 st) (w.alloc (.cells #[.int .i64 st] 3)) := Cl.new _ _ _
  have hg0 := hg.below hb0
  obtain ⟨w0, hw0⟩ : ∃ w0, w.alloc (.cells #[.int .i64 st] 3) = w0 := ⟨_, rfl⟩
  rw [hw0] at hb0 c0 hg0
  have hkn := known_any w0 hg0
  have hknH : Hid (Calls Tryd.prog 9 #[] w0 fun e w' => e = .returned (.bool true) ∧ Below w0.heap.size w0 w') := hkn
  have hg0H : Hid (Mx w0) := hg0
  clear hkn hg0 hg
  by_cases h5 : 5000 < s.size
  · have h5I : (5000 : Int) < (s.size : Int) := by omega
    go_enter Tryd.func3, Tryd.ntmps3
    go_wp2_with (rw [hw0])
    refine hknH.out.mono ?_
    rintro e w1 ⟨rfl, hb1⟩
    go_wp2_with fail
    go_ret
    exact ⟨rfl, hb0.trans (hb1.mono hb0.size)⟩
  have h5I : decide ((5000 : Int) < (s.size : Int)) = false := by simp; omega
  have hlen := lst_len s.data.toList
  have hli := fun (w : World) (hg : Mx w) => lines_any s w hg
  have hrl := fun (w : World) => rlines_any s w
  have hal := fun (w : World) (hg : Mx w) => all_any s w hg
  revert hlen hli hrl hal
  generalize lns s.data.toList = R
  intro hlen hli hrl hal
  have hliH : Hid (∀ (w : World), Mx w → Calls Tryd.prog 10 #[.string s] w (LinesP R w)) := hli
  have hrlH : Hid (∀ (w : World), Calls Tryd.prog 11 #[.string s] w (LinesP R w)) := hrl
  clear hli hrl
  go_enter Tryd.func3, Tryd.ntmps3
  go_wp2_with (rw [hw0])
  refine hknH.out.mono ?_
  rintro e w1 ⟨rfl, hb1⟩
  have c1 := c0.below hb1
  have hb01 := hb0.trans (hb1.mono hb0.size)
  have g1 : Hid (Mx w1) := hg0H.out.below hb1
  clear hknH hg0H c0 hw0
  go_wp2_with fail
  refine (hliH.out w1 g1.out).mono ?_
  intro e w2 h2
  obtain ⟨a2, g2, cap2, rfl, ha2, hat2, _, hgg2, hb2⟩ := lines_out h2
  have c2 := c1.below hb2
  have hb02 := hb01.trans (hb2.mono hb01.size)
  have gx2 : Hid (Mx w2) := g1.out.below hb2
  clear h2 c1
  go_wp2_with fail
  refine (hrlH.out w2).mono ?_
  intro e w3 h3
  obtain ⟨a3, g3, cap3, rfl, ha3, hat3, hcap3, hgg3, hb3⟩ := lines_out h3
  have c3 := c2.below hb3
  have hb03 := hb02.trans (hb3.mono hb02.size)
  have gx3 : Hid (Mx w3) := gx2.out.below hb3
  have hat2' := hat2.below hb3
  clear h3 c2 hat2 hliH hrlH
  -- the box of m
  obtain ⟨l, hl⟩ : ∃ l, lst R = l := ⟨_, rfl⟩
  obtain ⟨n, hn⟩ : ∃ n, l.length = n := ⟨_, rfl⟩
  have hNH : Hid (l.length = n) := hn
  simp only [hl] at *
  rw [hn] at hlen ha2 ha3 hcap3 ⊢
  simp only [hn] at hal
  obtain ⟨w4, hw4⟩ : ∃ w4, w3.alloc (.cells #[.slice a3 n cap3] 23) = w4 := ⟨_, rfl⟩
  have m4 : ∀ F, Mv F w3 w4 := fun F => by rw [← hw4]; exact Mv.alloc _ _ _
  have cm4 : Cl w3.heap.size (.slice a3 n cap3) w4 := by rw [← hw4]; exact Cl.new _ _ _
  have hs4 : w3.heap.size < w4.heap.size := by rw [← hw4]; simp
  have hps := c3.lt
  have c4 := c3.mv (m4 (fun _ => False)) (fun h => h)
  have hb04 : Below w.heap.size w w4 := hb03.trans ((m4 (fun _ => False)).toBelow hb03.size (fun _ _ h => h))
  have gx4 : Hid (Mx w4) := gx3.out.mv (m4 (fun _ => False)) (fun h => h)
  have hsm := lines_same a2 a3 g2 cap2 g3 cap3 l w4 (by rw [hNH.out]; exact ha2) (by rw [hNH.out]; exact ha3) (hat2'.mv2 (m4 (fun _ => False)) (fun _ h => h)) (hat3.mv2 (m4 (fun _ => False)) (fun _ h => h)) (by rw [hNH.out]; omega)
  rw [hNH.out] at hsm
  have hsmH : Hid (Calls Tryd.prog 12 #[.slice a2 n cap2, .slice a3 n cap3] w4 fun e w' => e = .returned (.bool true) ∧ Below w4.heap.size w4 w') := hsm
  have k4 := cm4.c
  obtain ⟨cn, hcn⟩ : ∃ cn, cdN R = cn := ⟨_, rfl⟩
  obtain ⟨ck, hck⟩ : ∃ ck, cdK R = ck := ⟨_, rfl⟩
  rw [hcn, hck]
  have hat3H : Hid (LnAt w3 g3 l) := hat3
  have halH : Hid (∀ w, Mx w → Calls Tryd.prog 13 #[.string s] w fun e w' => ∃ (pv : Nat) (a : Option Addr) (g cap : Nat), e = .returned (.func (.func 48) #[] #[.pointer (some ⟨pv, 0, none⟩)]) ∧ w'.cell? ⟨pv, 0, none⟩ = some (.slice a n cap) ∧ (0 < n → a = some ⟨g, 0, none⟩) ∧ LnAt w' g l ∧ w.heap.size ≤ g ∧ Below w.heap.size w w') := hal
  clear hsm hat2' hat3 hal hcn hck hn gx3 c3 hb03
  go_wp2_with (first | rw [hw4] | (go_at_call 12; refine hsmH.out.mono ?_))
  rintro e w5 ⟨rfl, hb5⟩
  have c5 := c4.below hb5
  have cm5 := cm4.below hb5
  have hb05 := hb04.trans (hb5.mono hb04.size)
  obtain ⟨w6, hw6⟩ : ∃ w6, w5.alloc (.cells #[.slice none 0 0] 23) = w6 := ⟨_, rfl⟩
  have m6 : ∀ F, Mv F w5 w6 := fun F => by rw [← hw6]; exact Mv.alloc _ _ _
  have ca6 : Cl w5.heap.size (.slice none 0 0) w6 := by rw [← hw6]; exact Cl.new _ _ _
  have hs6 : w5.heap.size < w6.heap.size := by rw [← hw6]; simp
  have hb06 : Below w.heap.size w w6 := hb05.trans ((m6 (fun _ => False)).toBelow hb05.size (fun _ _ h => h))
  have gx6 : Mx w6 := (gx4.out.below hb5).mv (m6 (fun _ => False)) (fun h => h)
  clear hsmH cm4 c4 k4 hw4 gx4
  go_wp2_with (first | rw [hw6] | (go_at_call 13; refine (halH.out w6 gx6).mono ?_))
  rintro e w7 ⟨pv, a7, g7, cap7, rfl, cv7, ha7, hat7, hgg7, hb7⟩
  have c7 := (c5.mv (m6 (fun _ => False)) (fun h => h)).below hb7
  have cm7 := (cm5.mv (m6 (fun _ => False)) (fun h => h)).below hb7
  have ca7 := ca6.below hb7
  have hb07 := hb06.trans (hb7.mono hb06.size)
  have z1 := hb5.size
  have z2 := hb7.size
  have z3 := c7.lt
  have hva := values_any w5.heap.size w.heap.size w3.heap.size pv g7 cap7 cap3 a7 a3 st l w7 (by omega) (by omega) (by omega) (by omega) (by omega) (by omega) ca7 c7.c (by rw [hNH.out]; exact cm7.c) (by rw [hNH.out]; exact cv7) (by rw [hNH.out]; exact ha7) hat7 (by rw [hNH.out]; omega)
  rw [hNH.out] at hva
  have hvaH : Hid (Calls Tryd.prog 48 #[.func (.func 14) #[] #[.pointer (some ⟨w5.heap.size, 0, none⟩), .pointer (some ⟨w.heap.size, 0, none⟩), .pointer (some ⟨w3.heap.size, 0, none⟩)], .pointer (some ⟨pv, 0, none⟩)] w7 fun e W' => e = .returned (.tuple #[]) ∧ ∃ v, Cl w5.heap.size v W' ∧ W'.ownsRow w7.heap.size 34 4 v (l.take (tk n st)).length (lnsC (l.take (tk n st))) ∧ Mv (Tc w7.heap.size w5.heap.size) w7 W') := hva
  have hat3w : LnAt w7 g3 l := ((hat3H.out.mv2 (m4 (fun _ => False)) (fun _ h => h)).below hb5 |>.mv2 (m6 (fun _ => False)) (fun _ h => h)).below hb7
  have hg3 : 0 < l.length → g3 < w3.heap.size := fun h => hat3H.out.lt h
  have hat3wH : Hid (LnAt w7 g3 l) := hat3w
  clear hva hat7 hat3w hw6
  go_wp2_with (go_at_call 48; refine hvaH.out.mono ?_)
  rintro e w8 ⟨rfl, v, ca8, ho8, hm8⟩
  have nps : ¬ Tc w7.heap.size w5.heap.size w.heap.size := by rintro (h | h) <;> omega
  have npm : ¬ Tc w7.heap.size w5.heap.size w3.heap.size := by rintro (h | h) <;> omega
  have c8 := c7.mv hm8 nps
  have cm8 := cm7.mv hm8 npm
  have hb08 : Below w.heap.size w w8 := hb07.trans (hm8.toBelow (by omega) (fun k hk => by rintro (h | h) <;> omega))
  have hat38 : LnAt w8 g3 l := hat3wH.out.mv2 hm8 (fun h => by have := hg3 h; rintro (h | h) <;> omega)
  obtain ⟨a8, g8, cap8, rfl, ha8, hat8, _, hgg8⟩ := own_lines2 ho8
  have hm8s := hm8.size
  have s1 := c8.c
  have s2 := cm8.c
  have s3 := cm8.f
  have s4 := ca8.c
  have hat38H : Hid (LnAt w8 g3 l) := hat38
  have hat8H : Hid (LnAt w8 g8 (l.take (tk n st))) := hat8
  clear hat38 hat8 ho8 hvaH hat3wH hat3H halH
  by_cases hst : 1 ≤ st ∧ st < n
  · obtain ⟨t, rfl⟩ : ∃ t : Nat, st = (t : Int) := ⟨st.toNat, by omega⟩
    have htk : tk n t = t := by unfold tk; rw [if_pos (by omega)]; omega
    have htl : (l.take t).length = t := by rw [List.length_take, hNH.out]; omega
    rw [htk] at ha8 hat8H s4 ca8
    rw [htl] at ha8 s4 ca8
    obtain rfl := ha3 (by omega)
    obtain ⟨w9, hw9⟩ : ∃ w9, w8.setCell ⟨w3.heap.size, 0, none⟩ (.slice (some ⟨g3, 0, none⟩) t cap3) = w9 := ⟨_, rfl⟩
    have m9 : Mv (fun k => k = w3.heap.size) w8 w9 := by rw [← hw9]; exact Mv.set1 (E := fun k => k = w3.heap.size) rfl _
    have cm9 : Cl w3.heap.size (.slice (some ⟨g3, 0, none⟩) t cap3) w9 := by rw [← hw9]; exact cm8.set _
    have ca9 := ca8.mv m9 (by omega)
    have s5 := cm9.c
    have s6 := ca9.c
    have hb09 : Below w.heap.size w w9 := hb08.trans (m9.toBelow hb08.size (fun k hk => by omega))
    have hsm := lines_same a8 (some ⟨g3, 0, none⟩) g8 cap8 g3 cap3 (l.take t) w9 (by rw [htl]; exact ha8) (fun _ => rfl) (hat8H.out.mv2 m9 (fun _ h => by omega)) ((hat38H.out.mv2 m9 (fun h e => by have := hg3 h; omega)).take t) (by omega)
    rw [htl] at hsm
    have hsmH : Hid (Calls Tryd.prog 12 #[.slice a8 t cap8, .slice (some ⟨g3, 0, none⟩) t cap3] w9 fun e w' => e = .returned (.bool true) ∧ Below w9.heap.size w9 w') := hsm
    have y1 : (1 : Int) ≤ (t : Int) := by omega
    have y2 : (t : Int) < (n : Int) := by omega
    have y3 : (t : Int) ≤ (cap3 : Int) := by omega
    clear hsm hst htk htl
    go_wp2_with (first | rw [hw9] | (go_at_call 12; refine hsmH.out.mono ?_))
    rintro e w10 ⟨rfl, hb10⟩
    go_wp2_with fail
    go_ret
    exact ⟨rfl, hb09.trans (hb10.mono hb09.size)⟩
  · have htk : l.take (tk n st) = l := by
      refine List.take_of_length_le ?_
      rw [hNH.out]
      unfold tk
      split <;> omega
    rw [htk] at ha8 hat8H s4 ca8
    rw [hNH.out] at ha8 s4 ca8
    have hsm := lines_same a8 a3 g8 cap8 g3 cap3 l w8 (by rw [hNH.out]; exact ha8) (by rw [hNH.out]; exact ha3) hat8H.out hat38H.out (by rw [hNH.out]; omega)
    rw [hNH.out] at hsm
    have hsmH : Hid (Calls Tryd.prog 12 #[.slice a8 n cap8, .slice a3 n cap3] w8 fun e w' => e = .returned (.bool true) ∧ Below w8.heap.size w8 w') := hsm
    clear hsm htk
    by_cases hs1 : 1 ≤ st
    · have y1 : ¬ st < (n : Int) := by omega
      have y2 : decide (st < (n : Int)) = false := by simp; omega
      clear hst
      go_wp2_with (go_at_call 12; refine hsmH.out.mono ?_)
      rintro e w10 ⟨rfl, hb10⟩
      go_wp2_with fail
      go_ret
      exact ⟨rfl, hb08.trans (hb10.mono hb08.size)⟩
    · have y2 : decide (1 ≤ st) = false := by simp; omega
      clear hst
      go_wp2_with (go_at_call 12; refine hsmH.out.mono ?_)
      rintro e w10 ⟨rfl, hb10⟩
      go_wp2_with fail
      go_ret
      exact ⟨rfl, hb08.trans (hb10.mono hb08.size)⟩
end Go.Proofs.YtcihilaofehomaaDoor
