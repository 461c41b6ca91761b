/- The law CivilTells, walked: the code answers as the reference, pair by pair. -/
import Derived.Test.YtgogbbhbkckfgaaDoorT2
namespace Go.Proofs.YtgogbbhbkckfgaaDoor
open Go.RowKit
/-- What lay in w lies as it lay; the two boxes lie; the tables lie. -/
def PT (w w' : World) : Prop := Below w.heap.size w w' ∧ w.heap.size + 1 < w'.heap.size ∧ TabP w'
/-- .. and the boxes of the date and of the moment hold them. -/
def Bx (w : World) (y m d a b c e f i : Int) (W : World) : Prop := PT w W ∧ W.cell? ⟨w.heap.size, 0, none⟩ = some (.int .i64 y) ∧ W.cell? ⟨w.heap.size, 1, none⟩ = some (.int .i64 m) ∧ W.cell? ⟨w.heap.size, 2, none⟩ = some (.int .i64 d) ∧ W.cell? ⟨w.heap.size + 1, 0, none⟩ = some (.int .i64 a) ∧ W.cell? ⟨w.heap.size + 1, 1, none⟩ = some (.int .i64 b) ∧ W.cell? ⟨w.heap.size + 1, 2, none⟩ = some (.int .i64 c) ∧ W.cell? ⟨w.heap.size + 1, 3, none⟩ = some (.int .i64 e) ∧ W.cell? ⟨w.heap.size + 1, 4, none⟩ = some (.int .i64 f) ∧ W.cell? ⟨w.heap.size + 1, 5, none⟩ = some (.int .i64 i)
theorem Bx.next {w W W' : World} {y m d a b c e f i : Int} (hb : Below W.heap.size W W') (h : Bx w y m d a b c e f i W) : Bx w y m d a b c e f i W' := by
  obtain ⟨⟨p1, p2, p3⟩, k0, k1, k2, k3, k4, k5, k6, k7, k8⟩ := h
  have e0 : ∀ j, W'.cell? ⟨w.heap.size, j, none⟩ = W.cell? ⟨w.heap.size, j, none⟩ := fun j => hb.cell (p := ⟨w.heap.size, j, none⟩) (by simp; omega)
  have e1 : ∀ j, W'.cell? ⟨w.heap.size + 1, j, none⟩ = W.cell? ⟨w.heap.size + 1, j, none⟩ := fun j => hb.cell (p := ⟨w.heap.size + 1, j, none⟩) (by simpa using p2)
  exact ⟨⟨p1.trans (hb.mono (by omega)), Nat.lt_of_lt_of_le p2 hb.size, p3.below hb⟩, (e0 0).trans k0, (e0 1).trans k1, (e0 2).trans k2, (e1 0).trans k3, (e1 1).trans k4, (e1 2).trans k5, (e1 3).trans k6, (e1 4).trans k7, (e1 5).trans k8⟩
theorem Bx.drew {w W : World} {y m d a b c e f i : Int} (h : Bx w y m d a b c e f i W) : Bx w y m d a b c e f i W.drew := h.next ((Below.refl _ W).drew)
theorem Bx.alloc {w W : World} {y m d a b c e f i : Int} (h : Bx w y m d a b c e f i W) (o : Obj) : Bx w y m d a b c e f i (W.alloc o) := h.next ((Below.refl _ W).alloc (Nat.le_refl _) o)
theorem Bx.start (w : World) (hT : TabP w) (y m d a b c e f i : Int) : Bx w y m d a b c e f i ((w.alloc (.cells #[.int .i64 y, .int .i64 m, .int .i64 d] 23)).alloc (.cells #[.int .i64 a, .int .i64 b, .int .i64 c, .int .i64 e, .int .i64 f, .int .i64 i] 25)) := by
  refine ⟨⟨((Below.refl _ w).alloc (Nat.le_refl _) _).alloc (by simp) _, by simp, (hT.alloc _).alloc _⟩, ?_, ?_, ?_, ?_, ?_, ?_, ?_, ?_, ?_⟩
  · rw [World.cell?_alloc_lt _ _ _ (by simp)]; simp
  · rw [World.cell?_alloc_lt _ _ _ (by simp)]; simp
  · rw [World.cell?_alloc_lt _ _ _ (by simp)]; simp
  all_goals simp
set_option maxRecDepth 100000 in
set_option maxHeartbeats 40000000 in
theorem tells_walk (y m d n a b c e f i t : Int) (w : World) (hT : TabP w) (hn : n ≤ 9223372036854775807) (ht : t ≤ 9223372036854775807) :
    Calls Tryd.prog 3 #[.agg #[.int .i64 y, .int .i64 m, .int .i64 d], .int .i64 n, momV a b c e f i, .int .i64 t] w fun z w' => z = .returned (.bool true) ∧ Below w.heap.size w w' := by
  have l9 := fun w (hT : TabP w) => days_any y m d w hT.len
  have l10 := fun w => rDays_any y m d w
  have l11 := fun w (hT : TabP w) => is_any y m d w hT.len
  have l12 := fun w => rIs_any y m d w
  have l13 := fun w => week_any n w
  have l14 := fun w => rWeek_any n w
  have l15 := fun w (hT : TabP w) => print_any a b c e f i w hT
  have l16 := fun w => rPrint_any a b c e f i w
  have l17 := fun w (hT : TabP w) => date_any n w hT.len
  have l18 := fun w => rDate_any n w hn
  have l19 := fun w (hT : TabP w) => unix_any a b c e f i w hT.len
  have l20 := fun w => rUnix_any a b c e f i w
  have l21 := fun w (hT : TabP w) => moment_any t w hT.len
  have l22 := fun w => rMoment_any t w ht
  clear hn ht
  generalize daysV y m d = dv at *
  generalize daysE y m d = de at *
  generalize Civ.vldB y m d = vb at *
  generalize Civ.wd n = wk at *
  generalize prT a b c e f i = tx at *
  generalize gY n = g1 at *
  generalize gM n = g2 at *
  generalize gD n = g3 at *
  generalize gE n = g4 at *
  generalize unixV a b c e f i = uv at *
  generalize unixE a b c e f i = ue at *
  generalize tY t = t1 at *
  generalize tM t = t2 at *
  generalize tD t = t3 at *
  generalize tH t = t4 at *
  generalize tI t = t5 at *
  generalize tS t = t6 at *
  generalize tE t = t7 at *
  have hX0 := Bx.start w hT y m d a b c e f i
  have h0 := hX0
  go_enter Tryd.func3, Tryd.ntmps3
  go_wp2_with fail
  refine (known_any _ h0.1.2.2.len).mono ?_
  rintro z w1 ⟨rfl, hb1⟩
  have hX1 := hX0.next hb1
  clear hX0 h0 hb1
  have hX1' := hX1
  obtain ⟨p, k0, k1, k2, k3, k4, k5, k6, k7, k8⟩ := hX1'
  go_wp2_with fail
  refine (l9 _ p.2.2).mono ?_
  rintro z w2 ⟨rfl, hb2⟩
  have hX2 := hX1.next hb2
  clear hX1 hb2 k0 k1 k2 k3 k4 k5 k6 k7 k8 p l9
  have hX2' := hX2
  obtain ⟨p, k0, k1, k2, k3, k4, k5, k6, k7, k8⟩ := hX2'
  go_wp2_with fail
  refine (l10 _).mono ?_
  rintro z w3 ⟨rfl, hb3⟩
  have hX3 := hX2.next hb3
  clear hX2 hb3 k0 k1 k2 k3 k4 k5 k6 k7 k8 p l10
  have hX3' := hX3
  obtain ⟨p, k0, k1, k2, k3, k4, k5, k6, k7, k8⟩ := hX3'
  have HH := hide2 (And.intro l17 (And.intro l18 (And.intro l19 (And.intro l20 (And.intro l21 l22)))))
  clear l17 l18 l19 l20 l21 l22
  go_wp2_with fail
  go_region_held3 (fun w' => PT w w' ∧ w'.cell? ⟨w.heap.size, 0, none⟩ = some (.int .i64 y) ∧ w'.cell? ⟨w.heap.size, 1, none⟩ = some (.int .i64 m) ∧ w'.cell? ⟨w.heap.size, 2, none⟩ = some (.int .i64 d) ∧ w'.cell? ⟨w.heap.size + 1, 0, none⟩ = some (.int .i64 a) ∧ w'.cell? ⟨w.heap.size + 1, 1, none⟩ = some (.int .i64 b) ∧ w'.cell? ⟨w.heap.size + 1, 2, none⟩ = some (.int .i64 c) ∧ w'.cell? ⟨w.heap.size + 1, 3, none⟩ = some (.int .i64 e) ∧ w'.cell? ⟨w.heap.size + 1, 4, none⟩ = some (.int .i64 f) ∧ w'.cell? ⟨w.heap.size + 1, 5, none⟩ = some (.int .i64 i))
    (first
      | assumption
      | exact hX4
      | exact Bx.drew (by first | assumption | (go_split_ands; refine ⟨?_, ?_, ?_, ?_, ?_, ?_, ?_, ?_, ?_, ?_⟩ <;> assumption))
      | (go_split_ands; refine ⟨?_, ?_, ?_, ?_, ?_, ?_, ?_, ?_, ?_, ?_⟩ <;> assumption))
    (first
      | (go_at_call 11; have hP : Bx w y m d a b c e f i _ := (by first | assumption | exact Bx.drew (by assumption)); refine (l11 _ hP.1.2.2).mono ?_; rintro z w4 ⟨rfl, hb4⟩; have hX4 := Bx.next hb4 hP; clear hP)
      | (go_at_call 12; refine (l12 _).mono ?_; rintro z w4 ⟨rfl, hb4⟩; have hX4 := Bx.next hb4 (by assumption : Bx w y m d a b c e f i _))
      | (go_at_call 13; refine (l13 _).mono ?_; rintro z w4 ⟨rfl, rfl⟩)
      | (go_at_call 14; refine (l14 _).mono ?_; rintro z w4 ⟨rfl, rfl⟩)
      | (go_at_call 15; refine (l15 _ (by assumption : Bx w y m d a b c e f i _).1.2.2).mono ?_; rintro z w4 ⟨rfl, hb4⟩; have hX4 := Bx.next hb4 (by assumption : Bx w y m d a b c e f i _))
      | (go_at_call 16; refine (l16 _).mono ?_; rintro z w4 ⟨rfl, hb4⟩; have hX4 := Bx.next hb4 (by assumption : Bx w y m d a b c e f i _)))
  go_split_ands
  clear l11 l12 l13 l14 l15 l16 hX3 k0 k1 k2 k3 k4 k5 k6 k7 k8 p hb4
  obtain ⟨l17, l18, l19, l20, l21, l22⟩ := HH.out
  clear HH
  go_wp2_with fail
  refine (l17 _ hX4.1.2.2).mono ?_
  rintro z w5 ⟨rfl, hb5⟩
  have hX5 := (hX4.next hb5).alloc (.cells #[.int .i64 g1, .int .i64 g2, .int .i64 g3] 23)
  clear hb5 l17 hX4
  go_wp2_with fail
  refine (l18 _).mono ?_
  rintro z w6 ⟨rfl, hb6⟩
  have hz6 := hb6.size
  rw [World.size_alloc] at hz6
  have lt6 : w5.heap.size < w6.heap.size := by omega
  have c0 : w6.cell? ⟨w5.heap.size, 0, none⟩ = some (.int .i64 g1) := by rw [hb6.cell (by simp)]; simp
  have c1 : w6.cell? ⟨w5.heap.size, 1, none⟩ = some (.int .i64 g2) := by rw [hb6.cell (by simp)]; simp
  have c2 : w6.cell? ⟨w5.heap.size, 2, none⟩ = some (.int .i64 g3) := by rw [hb6.cell (by simp)]; simp
  have hX6 := (hX5.next hb6).alloc (.cells #[.int .i64 g1, .int .i64 g2, .int .i64 g3] 23)
  clear hb6 l18 hX5
  have hX6' := hX6
  obtain ⟨p, k0, k1, k2, k3, k4, k5, k6, k7, k8⟩ := hX6'
  go_wp2_with fail
  refine (l19 _ p.2.2).mono ?_
  rintro z w7 ⟨rfl, hb7⟩
  have hX7 := hX6.next hb7
  clear hb7 l19 hX6 k0 k1 k2 k3 k4 k5 k6 k7 k8 p c0 c1 c2
  have hX7' := hX7
  obtain ⟨p, k0, k1, k2, k3, k4, k5, k6, k7, k8⟩ := hX7'
  go_wp2_with fail
  refine (l20 _).mono ?_
  rintro z w8 ⟨rfl, hb8⟩
  have hX8 := hX7.next hb8
  clear hb8 l20 hX7 k0 k1 k2 k3 k4 k5 k6 k7 k8 p
  go_wp2_with fail
  refine (l21 _ hX8.1.2.2).mono ?_
  rintro z w9 ⟨rfl, hb9⟩
  have hX9 := (hX8.next hb9).alloc (.cells #[.int .i64 t1, .int .i64 t2, .int .i64 t3, .int .i64 t4, .int .i64 t5, .int .i64 t6] 25)
  clear hb9 l21 hX8
  go_wp2_with fail
  refine (l22 _).mono ?_
  rintro z w10 ⟨rfl, hb10⟩
  have hz10 := hb10.size
  rw [World.size_alloc] at hz10
  have lt10 : w9.heap.size < w10.heap.size := by omega
  have c0 : w10.cell? ⟨w9.heap.size, 0, none⟩ = some (.int .i64 t1) := by rw [hb10.cell (by simp)]; simp
  have c1 : w10.cell? ⟨w9.heap.size, 1, none⟩ = some (.int .i64 t2) := by rw [hb10.cell (by simp)]; simp
  have c2 : w10.cell? ⟨w9.heap.size, 2, none⟩ = some (.int .i64 t3) := by rw [hb10.cell (by simp)]; simp
  have c3 : w10.cell? ⟨w9.heap.size, 3, none⟩ = some (.int .i64 t4) := by rw [hb10.cell (by simp)]; simp
  have c4 : w10.cell? ⟨w9.heap.size, 4, none⟩ = some (.int .i64 t5) := by rw [hb10.cell (by simp)]; simp
  have c5 : w10.cell? ⟨w9.heap.size, 5, none⟩ = some (.int .i64 t6) := by rw [hb10.cell (by simp)]; simp
  have hX10 := (hX9.next hb10).alloc (.cells #[.int .i64 t1, .int .i64 t2, .int .i64 t3, .int .i64 t4, .int .i64 t5, .int .i64 t6] 25)
  clear hb10 l22 hX9
  go_wp2_with fail
  go_ret
  exact ⟨rfl, hX10.1.1⟩
end Go.Proofs.YtgogbbhbkckfgaaDoor
