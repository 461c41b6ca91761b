/- The law CivilOrder, walked where both are moments. -/
import Derived.Test.YtgogbbhbkckfgaaDoorO3
import Derived.Test.YtgogbbhbkckfgaaDoorT3
namespace Go.Proofs.YtgogbbhbkckfgaaDoor
open Go.RowKit
/-- The boxes of the two moments hold them. -/
def Bm (w : World) (y m d h mi s y' m' d' h' mi' s' : Int) (W : World) : Prop := PT w W ∧ W.cell? ⟨w.heap.size, 0, none⟩ = some (.int .i64 y) ∧ W.cell? ⟨w.heap.size, 1, none⟩ = some (.int .i64 m) ∧ W.cell? ⟨w.heap.size, 2, none⟩ = some (.int .i64 d) ∧ W.cell? ⟨w.heap.size, 3, none⟩ = some (.int .i64 h) ∧ W.cell? ⟨w.heap.size, 4, none⟩ = some (.int .i64 mi) ∧ W.cell? ⟨w.heap.size, 5, none⟩ = some (.int .i64 s) ∧ W.cell? ⟨w.heap.size + 1, 0, none⟩ = some (.int .i64 y') ∧ W.cell? ⟨w.heap.size + 1, 1, none⟩ = some (.int .i64 m') ∧ W.cell? ⟨w.heap.size + 1, 2, none⟩ = some (.int .i64 d') ∧ W.cell? ⟨w.heap.size + 1, 3, none⟩ = some (.int .i64 h') ∧ W.cell? ⟨w.heap.size + 1, 4, none⟩ = some (.int .i64 mi') ∧ W.cell? ⟨w.heap.size + 1, 5, none⟩ = some (.int .i64 s')
theorem Bm.next {w W W' : World} {y m d h mi s y' m' d' h' mi' s' : Int} (hb : Below W.heap.size W W') (hX : Bm w y m d h mi s y' m' d' h' mi' s' W) : Bm w y m d h mi s y' m' d' h' mi' s' W' := by
  obtain ⟨⟨p1, p2, p3⟩, k0, k1, k2, k3, k4, k5, j0, j1, j2, j3, j4, j5⟩ := hX
  have e0 : ∀ j, W'.cell? ⟨w.heap.size, j, none⟩ = W.cell? ⟨w.heap.size, j, none⟩ := fun j => hb.cell (p := ⟨w.heap.size, j, none⟩) (by simp; omega)
  have e1 : ∀ j, W'.cell? ⟨w.heap.size + 1, j, none⟩ = W.cell? ⟨w.heap.size + 1, j, none⟩ := fun j => hb.cell (p := ⟨w.heap.size + 1, j, none⟩) (by simpa using p2)
  exact ⟨⟨p1.trans (hb.mono (by omega)), Nat.lt_of_lt_of_le p2 hb.size, p3.below hb⟩, (e0 0).trans k0, (e0 1).trans k1, (e0 2).trans k2, (e0 3).trans k3, (e0 4).trans k4, (e0 5).trans k5, (e1 0).trans j0, (e1 1).trans j1, (e1 2).trans j2, (e1 3).trans j3, (e1 4).trans j4, (e1 5).trans j5⟩
theorem Bm.drew {w W : World} {y m d h mi s y' m' d' h' mi' s' : Int} (hX : Bm w y m d h mi s y' m' d' h' mi' s' W) : Bm w y m d h mi s y' m' d' h' mi' s' W.drew := hX.next ((Below.refl _ W).drew)
theorem Bm.drewN {w W : World} {y m d h mi s y' m' d' h' mi' s' : Int} (hX : Bm w y m d h mi s y' m' d' h' mi' s' W) (q : Nat) : Bm w y m d h mi s y' m' d' h' mi' s' (W.drewN q) := hX.next (below_drewN W q)
theorem Bm.alloc {w W : World} {y m d h mi s y' m' d' h' mi' s' : Int} (hX : Bm w y m d h mi s y' m' d' h' mi' s' W) (o : Obj) : Bm w y m d h mi s y' m' d' h' mi' s' (W.alloc o) := hX.next ((Below.refl _ W).alloc (Nat.le_refl _) o)
theorem Bm.start (w : World) (hT : TabP w) (y m d h mi s y' m' d' h' mi' s' : Int) : Bm w y m d h mi s y' m' d' h' mi' s' ((w.alloc (.cells #[.int .i64 y, .int .i64 m, .int .i64 d, .int .i64 h, .int .i64 mi, .int .i64 s] 25)).alloc (.cells #[.int .i64 y', .int .i64 m', .int .i64 d', .int .i64 h', .int .i64 mi', .int .i64 s'] 25)) := by
  refine ⟨⟨((Below.refl _ w).alloc (Nat.le_refl _) _).alloc (by simp) _, by simp, (hT.alloc _).alloc _⟩, ?_, ?_, ?_, ?_, ?_, ?_, ?_, ?_, ?_, ?_, ?_, ?_⟩
  · rw [World.cell?_alloc_lt _ _ _ (by simp)]; simp
  · rw [World.cell?_alloc_lt _ _ _ (by simp)]; simp
  · rw [World.cell?_alloc_lt _ _ _ (by simp)]; simp
  · rw [World.cell?_alloc_lt _ _ _ (by simp)]; simp
  · rw [World.cell?_alloc_lt _ _ _ (by simp)]; simp
  · rw [World.cell?_alloc_lt _ _ _ (by simp)]; simp
  all_goals simp
theorem vec_cell (W : World) (a b c d e f : Int) (t : TypeId) (k : Nat) (hk : k < 6) : (W.alloc (.cells #[.int .i64 a, .int .i64 b, .int .i64 c, .int .i64 d, .int .i64 e, .int .i64 f] t)).cell? ⟨W.heap.size, k, none⟩ = some (.int .i64 (vec a b c d e f k)) := by
  match k, hk with
  | 0, _ => simp [vec]
  | 1, _ => simp [vec]
  | 2, _ => simp [vec]
  | 3, _ => simp [vec]
  | 4, _ => simp [vec]
  | 5, _ => simp [vec]
theorem vec_bd (a b c d e f : Int) (ha : 0 ≤ a ∧ a ≤ 3000) (hb : 0 ≤ b ∧ b ≤ 3000) (hc : 0 ≤ c ∧ c ≤ 3000) (hd : 0 ≤ d ∧ d ≤ 3000) (he : 0 ≤ e ∧ e ≤ 3000) (hf : 0 ≤ f ∧ f ≤ 3000) : ∀ k, 0 ≤ vec a b c d e f k ∧ vec a b c d e f k ≤ 3000
  | 0 => ha
  | 1 => hb
  | 2 => hc
  | 3 => hd
  | 4 => he
  | _ + 5 => hf
theorem cell_lt {W : World} {a : Addr} {v : Value} (h : W.cell? a = some v) : a.block < W.heap.size := by
  rcases Nat.lt_or_ge a.block W.heap.size with hl | hl
  · exact hl
  · have : W.cell? a = none := by
      unfold World.cell?
      rw [Array.getElem?_eq_none hl]
    rw [this] at h; cases h
set_option maxRecDepth 100000 in
set_option maxHeartbeats 40000000 in
theorem order_yes (y m d h mi s y' m' d' h' mi' s' : Int) (w : World) (hT : TabP w) (v : Civ.vldB y m d = true) (t : Civ.timB h mi s = true) (v' : Civ.vldB y' m' d' = true) (t' : Civ.timB h' mi' s' = true) :
    Calls Tryd.prog 7 #[momV y m d h mi s, momV y' m' d' h' mi' s'] w fun e w' => e = .returned (.bool true) ∧ Below w.heap.size w w' := by
  have l1 := fun w (hT : TabP w) => unix_yes y m d h mi s w hT.len v t
  have l2 := fun w (hT : TabP w) => unix_yes y' m' d' h' mi' s' w hT.len v' t'
  have hW := oway v t v' t'
  have bl : ∀ k, 0 ≤ vec y m d h mi s k ∧ vec y m d h mi s k ≤ 3000 := by
    obtain ⟨v0, v1, v2, v3, v4, v5⟩ := Civ.vldB_iff.1 v
    have v6 := (Civ.dim_bd y m).2
    obtain ⟨a0, a1, a2, a3, a4, a5⟩ := Civ.timB_iff.1 t
    exact vec_bd _ _ _ _ _ _ (by omega) (by omega) (by omega) (by omega) (by omega) (by omega)
  have bm : ∀ k, 0 ≤ vec y' m' d' h' mi' s' k ∧ vec y' m' d' h' mi' s' k ≤ 3000 := by
    obtain ⟨v0, v1, v2, v3, v4, v5⟩ := Civ.vldB_iff.1 v'
    have v6 := (Civ.dim_bd y' m').2
    obtain ⟨a0, a1, a2, a3, a4, a5⟩ := Civ.timB_iff.1 t'
    exact vec_bd _ _ _ _ _ _ (by omega) (by omega) (by omega) (by omega) (by omega) (by omega)
  have bd := dif_bd _ _ 3000 (by omega) bl bm
  have hstep := dif_step (vec y m d h mi s) (vec y' m' d' h' mi' s')
  have hstay := dif_stay (vec y m d h mi s) (vec y' m' d' h' mi' s')
  have hz0 : dif (vec y m d h mi s) (vec y' m' d' h' mi' s') 0 = 0 := rfl
  have vc := fun W => vec_cell W y m d h mi s 56
  have vc' := fun W => vec_cell W y' m' d' h' mi' s' 56
  generalize hL : vec y m d h mi s = L at *
  generalize hM : vec y' m' d' h' mi' s' = M at *
  generalize Civ.sec y m d h mi s = X at *
  generalize Civ.sec y' m' d' h' mi' s' = Z at *
  generalize hD : dif L M = D at *
  clear hL hM hD v t v' t'
  have HS := hide2 (And.intro hstep (And.intro hstay (And.intro hz0 hW)))
  have HB := hide2 (And.intro bl (And.intro bm bd))
  have HV := hide2 (And.intro vc vc')
  clear hstep hstay hz0 hW bl bm bd vc vc'
  have hX0 := Bm.start w hT y m d h mi s y' m' d' h' mi' s'
  have h0 := hX0
  go_enter Tryd.func7, Tryd.ntmps7
  go_wp2_with fail
  refine (known_any _ h0.1.2.2.len).mono ?_
  rintro z w1 ⟨rfl, hb1⟩
  have hX1 := hX0.next hb1
  clear hX0 h0 hb1
  have hX1' := hX1
  obtain ⟨p, k0, k1, k2, k3, k4, k5, j0, j1, j2, j3, j4, j5⟩ := hX1'
  go_wp2_with fail
  refine (l1 _ p.2.2).mono ?_
  rintro z w2 ⟨rfl, hb2⟩
  have hX2 := hX1.next hb2
  clear hX1 hb2 k0 k1 k2 k3 k4 k5 j0 j1 j2 j3 j4 j5 p l1
  have hX2' := hX2
  obtain ⟨p, k0, k1, k2, k3, k4, k5, j0, j1, j2, j3, j4, j5⟩ := hX2'
  go_wp2_with fail
  refine (l2 _ p.2.2).mono ?_
  rintro z w3 ⟨rfl, hb3⟩
  have hX3 := hX2.next hb3
  clear hX2 hb3 k0 k1 k2 k3 k4 k5 j0 j1 j2 j3 j4 j5 p l2
  have hX3' := hX3
  obtain ⟨p, k0, k1, k2, k3, k4, k5, j0, j1, j2, j3, j4, j5⟩ := hX3'
  have hlt0 : w.heap.size < w3.heap.size := by have := p.2.1; omega
  have hlt1 : w.heap.size + 1 < w3.heap.size := p.2.1
  go_wp2_with fail
  have hXW := (hX3.alloc (.cells #[.int .i64 y, .int .i64 m, .int .i64 d, .int .i64 h, .int .i64 mi, .int .i64 s] 56)).alloc (.cells #[.int .i64 y', .int .i64 m', .int .i64 d', .int .i64 h', .int .i64 mi', .int .i64 s'] 56)
  obtain ⟨vc, vc'⟩ := HV.out
  have vcl : ∀ k, k < 6 → ((w3.alloc (.cells #[.int .i64 y, .int .i64 m, .int .i64 d, .int .i64 h, .int .i64 mi, .int .i64 s] 56)).alloc (.cells #[.int .i64 y', .int .i64 m', .int .i64 d', .int .i64 h', .int .i64 mi', .int .i64 s'] 56)).cell? ⟨w3.heap.size, k, none⟩ = some (.int .i64 (L k)) := fun k hk => by
    rw [World.cell?_alloc_lt _ _ _ (by simp)]; exact vc w3 k hk
  have vcm : ∀ k, k < 6 → ((w3.alloc (.cells #[.int .i64 y, .int .i64 m, .int .i64 d, .int .i64 h, .int .i64 mi, .int .i64 s] 56)).alloc (.cells #[.int .i64 y', .int .i64 m', .int .i64 d', .int .i64 h', .int .i64 mi', .int .i64 s'] 56)).cell? ⟨w3.heap.size + 1, k, none⟩ = some (.int .i64 (M k)) := fun k hk => by
    have := vc' (w3.alloc (.cells #[.int .i64 y, .int .i64 m, .int .i64 d, .int .i64 h, .int .i64 mi, .int .i64 s] 56)) k hk
    rwa [World.size_alloc] at this
  clear HV vc vc' hX3 k0 k1 k2 k3 k4 k5 j0 j1 j2 j3 j4 j5 p
  revert hXW vcl vcm
  generalize (w3.alloc (.cells #[.int .i64 y, .int .i64 m, .int .i64 d, .int .i64 h, .int .i64 mi, .int .i64 s] 56)).alloc (.cells #[.int .i64 y', .int .i64 m', .int .i64 d', .int .i64 h', .int .i64 mi', .int .i64 s'] 56) = W0
  intro hXW vcl vcm
  have Hc := hide2 (And.intro vcl vcm)
  clear vcl vcm
  go_loopw [11, 12] (fun c i wr => ∃ k : Nat, k ≤ 6 ∧ i = .int .i64 k ∧ c = .int .i64 (D k) ∧ Below W0.heap.size W0 wr) (fun _ i _ => 6 - (intOf i).toNat)
  case atStart => exact ⟨0, by omega, rfl, by rw [HS.out.2.2.1], Below.refl _ _⟩
  case round =>
    obtain ⟨k, hk, rfl, rfl, hbr⟩ := hrel
    by_cases hc : k < 6 ∧ D k = 0
    · obtain ⟨hk6, hDk⟩ := hc
      have e1 : wr.cell? ⟨w3.heap.size, k, none⟩ = some (.int .i64 (L k)) := (hbr.cell (p := ⟨w3.heap.size, k, none⟩) (cell_lt (Hc.out.1 k hk6))).trans (Hc.out.1 k hk6)
      have e2 : wr.cell? ⟨w3.heap.size + 1, k, none⟩ = some (.int .i64 (M k)) := (hbr.cell (p := ⟨w3.heap.size + 1, k, none⟩) (cell_lt (Hc.out.2 k hk6))).trans (Hc.out.2 k hk6)
      have hs1 := hide2 (HS.out.1 k hDk)
      obtain ⟨lb0, lb1⟩ := HB.out.1 k
      obtain ⟨mb0, mb1⟩ := HB.out.2.1 k
      have i0 : (0 : Int) ≤ (k : Int) := by omega
      have i1 : (k : Int) < 6 := by omega
      generalize L k = Lk at *
      generalize M k = Mk at *
      go_wp2_with fail
      go_quiet (fail)
      go_wp2_with fail
      exact ⟨⟨k + 1, by omega, by go_num, by rw [hs1.out], below_drew hbr _⟩, by simp [intOf]; omega⟩
    · have hC : D 6 = D k := by
        by_cases h6 : k = 6
        · rw [h6]
        · have := HS.out.2.1 k (fun e => hc ⟨by omega, e⟩) (6 - k)
          rwa [show k + (6 - k) = 6 by omega] at this
      have hW := HS.out.2.2.2
      rw [hC] at hW
      have hcd := HB.out.2.2 k
      have hX := hXW.next hbr
      clear hC HS HB Hc hXW hbr hlt0 hlt1
      obtain ⟨p, k0, k1, k2, k3, k4, k5, j0, j1, j2, j3, j4, j5⟩ := hX
      have hK : k = 6 ∨ (k < 6 ∧ ¬ D k = 0) := by omega
      clear hc
      generalize D k = C at *
      rcases hW with ⟨x1, x2, x3⟩ | ⟨x1, x2, x3⟩ | ⟨x1, x2, x3⟩
      · have t1 : (X == Z) = false := by simp; omega
        have t2 : (C == 0) = false := by simp; omega
        rcases hK with rfl | ⟨hk6, hC0⟩
        · go_wp2_with fail
          go_region_held3 (fun w' => PT w w' ∧ w'.cell? ⟨w.heap.size, 0, none⟩ = some (.int .i64 y) ∧ w'.cell? ⟨w.heap.size, 1, none⟩ = some (.int .i64 m) ∧ w'.cell? ⟨w.heap.size, 2, none⟩ = some (.int .i64 d) ∧ w'.cell? ⟨w.heap.size, 3, none⟩ = some (.int .i64 h) ∧ w'.cell? ⟨w.heap.size, 4, none⟩ = some (.int .i64 mi) ∧ w'.cell? ⟨w.heap.size, 5, none⟩ = some (.int .i64 s) ∧ w'.cell? ⟨w.heap.size + 1, 0, none⟩ = some (.int .i64 y') ∧ w'.cell? ⟨w.heap.size + 1, 1, none⟩ = some (.int .i64 m') ∧ w'.cell? ⟨w.heap.size + 1, 2, none⟩ = some (.int .i64 d') ∧ w'.cell? ⟨w.heap.size + 1, 3, none⟩ = some (.int .i64 h') ∧ w'.cell? ⟨w.heap.size + 1, 4, none⟩ = some (.int .i64 mi') ∧ w'.cell? ⟨w.heap.size + 1, 5, none⟩ = some (.int .i64 s'))
            (first
              | assumption
              | exact hX4
              | exact Bm.drew (by first | assumption | (go_split_ands; refine ⟨?_, ?_, ?_, ?_, ?_, ?_, ?_, ?_, ?_, ?_, ?_, ?_, ?_⟩ <;> assumption))
              | (go_split_ands; refine ⟨?_, ?_, ?_, ?_, ?_, ?_, ?_, ?_, ?_, ?_, ?_, ?_, ?_⟩ <;> assumption))
            (first
              | (go_at_call 15; have hP : Bm w y m d h mi s y' m' d' h' mi' s' _ := (by first | assumption | exact Bm.drew (by assumption)); refine (print_any _ _ _ _ _ _ _ hP.1.2.2).mono ?_; rintro z w4 ⟨rfl, hb4⟩; have hX4 := Bm.next hb4 hP; clear hP))
          go_split_ands
          go_wp2_with fail
          go_ret
          exact ⟨rfl, hX4.1.1⟩
        · go_wp2_with fail
          go_region_held3 (fun w' => PT w w' ∧ w'.cell? ⟨w.heap.size, 0, none⟩ = some (.int .i64 y) ∧ w'.cell? ⟨w.heap.size, 1, none⟩ = some (.int .i64 m) ∧ w'.cell? ⟨w.heap.size, 2, none⟩ = some (.int .i64 d) ∧ w'.cell? ⟨w.heap.size, 3, none⟩ = some (.int .i64 h) ∧ w'.cell? ⟨w.heap.size, 4, none⟩ = some (.int .i64 mi) ∧ w'.cell? ⟨w.heap.size, 5, none⟩ = some (.int .i64 s) ∧ w'.cell? ⟨w.heap.size + 1, 0, none⟩ = some (.int .i64 y') ∧ w'.cell? ⟨w.heap.size + 1, 1, none⟩ = some (.int .i64 m') ∧ w'.cell? ⟨w.heap.size + 1, 2, none⟩ = some (.int .i64 d') ∧ w'.cell? ⟨w.heap.size + 1, 3, none⟩ = some (.int .i64 h') ∧ w'.cell? ⟨w.heap.size + 1, 4, none⟩ = some (.int .i64 mi') ∧ w'.cell? ⟨w.heap.size + 1, 5, none⟩ = some (.int .i64 s'))
            (first
              | assumption
              | exact hX4
              | exact Bm.drew (by first | assumption | (go_split_ands; refine ⟨?_, ?_, ?_, ?_, ?_, ?_, ?_, ?_, ?_, ?_, ?_, ?_, ?_⟩ <;> assumption))
              | (go_split_ands; refine ⟨?_, ?_, ?_, ?_, ?_, ?_, ?_, ?_, ?_, ?_, ?_, ?_, ?_⟩ <;> assumption))
            (first
              | (go_at_call 15; have hP : Bm w y m d h mi s y' m' d' h' mi' s' _ := (by first | assumption | exact Bm.drew (by assumption)); refine (print_any _ _ _ _ _ _ _ hP.1.2.2).mono ?_; rintro z w4 ⟨rfl, hb4⟩; have hX4 := Bm.next hb4 hP; clear hP))
          go_split_ands
          go_wp2_with fail
          go_ret
          exact ⟨rfl, hX4.1.1⟩
      · subst x1
        subst x2
        rcases hK with rfl | ⟨hk6, hC0⟩
        · go_wp2_with fail
          go_region_held3 (fun w' => PT w w' ∧ w'.cell? ⟨w.heap.size, 0, none⟩ = some (.int .i64 y) ∧ w'.cell? ⟨w.heap.size, 1, none⟩ = some (.int .i64 m) ∧ w'.cell? ⟨w.heap.size, 2, none⟩ = some (.int .i64 d) ∧ w'.cell? ⟨w.heap.size, 3, none⟩ = some (.int .i64 h) ∧ w'.cell? ⟨w.heap.size, 4, none⟩ = some (.int .i64 mi) ∧ w'.cell? ⟨w.heap.size, 5, none⟩ = some (.int .i64 s) ∧ w'.cell? ⟨w.heap.size + 1, 0, none⟩ = some (.int .i64 y') ∧ w'.cell? ⟨w.heap.size + 1, 1, none⟩ = some (.int .i64 m') ∧ w'.cell? ⟨w.heap.size + 1, 2, none⟩ = some (.int .i64 d') ∧ w'.cell? ⟨w.heap.size + 1, 3, none⟩ = some (.int .i64 h') ∧ w'.cell? ⟨w.heap.size + 1, 4, none⟩ = some (.int .i64 mi') ∧ w'.cell? ⟨w.heap.size + 1, 5, none⟩ = some (.int .i64 s'))
            (first
              | assumption
              | exact hX4
              | exact Bm.drew (by first | assumption | (go_split_ands; refine ⟨?_, ?_, ?_, ?_, ?_, ?_, ?_, ?_, ?_, ?_, ?_, ?_, ?_⟩ <;> assumption))
              | (go_split_ands; refine ⟨?_, ?_, ?_, ?_, ?_, ?_, ?_, ?_, ?_, ?_, ?_, ?_, ?_⟩ <;> assumption))
            (first
              | (go_at_call 15; have hP : Bm w y m d h mi s y' m' d' h' mi' s' _ := (by first | assumption | exact Bm.drew (by assumption)); refine (print_any _ _ _ _ _ _ _ hP.1.2.2).mono ?_; rintro z w4 ⟨rfl, hb4⟩; have hX4 := Bm.next hb4 hP; clear hP))
          go_split_ands
          go_wp2_with fail
          go_ret
          exact ⟨rfl, hX4.1.1⟩
        · exact absurd rfl hC0
      · have t1 : (X == Z) = false := by simp; omega
        have t2 : (C == 0) = false := by simp; omega
        have t3 : decide (X < Z) = false := by simp; omega
        have t4 : decide (C < 0) = false := by simp; omega
        rcases hK with rfl | ⟨hk6, hC0⟩
        · go_wp2_with fail
          go_region_held3 (fun w' => PT w w' ∧ w'.cell? ⟨w.heap.size, 0, none⟩ = some (.int .i64 y) ∧ w'.cell? ⟨w.heap.size, 1, none⟩ = some (.int .i64 m) ∧ w'.cell? ⟨w.heap.size, 2, none⟩ = some (.int .i64 d) ∧ w'.cell? ⟨w.heap.size, 3, none⟩ = some (.int .i64 h) ∧ w'.cell? ⟨w.heap.size, 4, none⟩ = some (.int .i64 mi) ∧ w'.cell? ⟨w.heap.size, 5, none⟩ = some (.int .i64 s) ∧ w'.cell? ⟨w.heap.size + 1, 0, none⟩ = some (.int .i64 y') ∧ w'.cell? ⟨w.heap.size + 1, 1, none⟩ = some (.int .i64 m') ∧ w'.cell? ⟨w.heap.size + 1, 2, none⟩ = some (.int .i64 d') ∧ w'.cell? ⟨w.heap.size + 1, 3, none⟩ = some (.int .i64 h') ∧ w'.cell? ⟨w.heap.size + 1, 4, none⟩ = some (.int .i64 mi') ∧ w'.cell? ⟨w.heap.size + 1, 5, none⟩ = some (.int .i64 s'))
            (first
              | assumption
              | exact hX4
              | exact Bm.drew (by first | assumption | (go_split_ands; refine ⟨?_, ?_, ?_, ?_, ?_, ?_, ?_, ?_, ?_, ?_, ?_, ?_, ?_⟩ <;> assumption))
              | (go_split_ands; refine ⟨?_, ?_, ?_, ?_, ?_, ?_, ?_, ?_, ?_, ?_, ?_, ?_, ?_⟩ <;> assumption))
            (first
              | (go_at_call 15; have hP : Bm w y m d h mi s y' m' d' h' mi' s' _ := (by first | assumption | exact Bm.drew (by assumption)); refine (print_any _ _ _ _ _ _ _ hP.1.2.2).mono ?_; rintro z w4 ⟨rfl, hb4⟩; have hX4 := Bm.next hb4 hP; clear hP))
          go_split_ands
          go_wp2_with fail
          go_ret
          exact ⟨rfl, hX4.1.1⟩
        · go_wp2_with fail
          go_region_held3 (fun w' => PT w w' ∧ w'.cell? ⟨w.heap.size, 0, none⟩ = some (.int .i64 y) ∧ w'.cell? ⟨w.heap.size, 1, none⟩ = some (.int .i64 m) ∧ w'.cell? ⟨w.heap.size, 2, none⟩ = some (.int .i64 d) ∧ w'.cell? ⟨w.heap.size, 3, none⟩ = some (.int .i64 h) ∧ w'.cell? ⟨w.heap.size, 4, none⟩ = some (.int .i64 mi) ∧ w'.cell? ⟨w.heap.size, 5, none⟩ = some (.int .i64 s) ∧ w'.cell? ⟨w.heap.size + 1, 0, none⟩ = some (.int .i64 y') ∧ w'.cell? ⟨w.heap.size + 1, 1, none⟩ = some (.int .i64 m') ∧ w'.cell? ⟨w.heap.size + 1, 2, none⟩ = some (.int .i64 d') ∧ w'.cell? ⟨w.heap.size + 1, 3, none⟩ = some (.int .i64 h') ∧ w'.cell? ⟨w.heap.size + 1, 4, none⟩ = some (.int .i64 mi') ∧ w'.cell? ⟨w.heap.size + 1, 5, none⟩ = some (.int .i64 s'))
            (first
              | assumption
              | exact hX4
              | exact Bm.drew (by first | assumption | (go_split_ands; refine ⟨?_, ?_, ?_, ?_, ?_, ?_, ?_, ?_, ?_, ?_, ?_, ?_, ?_⟩ <;> assumption))
              | (go_split_ands; refine ⟨?_, ?_, ?_, ?_, ?_, ?_, ?_, ?_, ?_, ?_, ?_, ?_, ?_⟩ <;> assumption))
            (first
              | (go_at_call 15; have hP : Bm w y m d h mi s y' m' d' h' mi' s' _ := (by first | assumption | exact Bm.drew (by assumption)); refine (print_any _ _ _ _ _ _ _ hP.1.2.2).mono ?_; rintro z w4 ⟨rfl, hb4⟩; have hX4 := Bm.next hb4 hP; clear hP))
          go_split_ands
          go_wp2_with fail
          go_ret
          exact ⟨rfl, hX4.1.1⟩
theorem order_walk (y m d h mi s y' m' d' h' mi' s' : Int) (w : World) (hT : TabP w) :
    Calls Tryd.prog 7 #[momV y m d h mi s, momV y' m' d' h' mi' s'] w fun e w' => e = .returned (.bool true) ∧ Below w.heap.size w w' := by
  cases h1 : mOk y m d h mi s
  · exact order_no _ _ _ _ _ _ _ _ _ _ _ _ w hT.len (.inl h1)
  · cases h2 : mOk y' m' d' h' mi' s'
    · exact order_no _ _ _ _ _ _ _ _ _ _ _ _ w hT.len (.inr h2)
    · unfold mOk at h1 h2
      simp at h1 h2
      exact order_yes _ _ _ _ _ _ _ _ _ _ _ _ w hT h1.1 h1.2 h2.1 h2.2
end Go.Proofs.YtgogbbhbkckfgaaDoor
