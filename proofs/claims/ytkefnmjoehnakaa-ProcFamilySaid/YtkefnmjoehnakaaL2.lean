/- The law ProcRoom. -/
import Derived.Test.YtkefnmjoehnakaaLW
namespace Go.Proofs.Ytkefnmjoehnakaa
open Go.RowKit Go.Shelf
/-- All are children of the first one, and none has ended. -/
def Al (l : Ps) : Prop := ∀ p ∈ l, p.par = 1 ∧ p.zom = false
theorem may_one (l : Ps) : mayP l 1 = true := by
  unfold mayP thereP getP
  simp [one]
theorem sp_ok {room last : Int} {l : Ps} (g c : ByteArray) (h : (l.length : Int) < room) : spP room last l 1 g c = ⟨last + 1, 0, last + 1, l ++ [newP last 1 g c]⟩ := by
  unfold spP
  rw [if_pos (may_one l), if_neg (by omega)]
theorem sp_full {room last : Int} {l : Ps} (g c : ByteArray) (h : room ≤ (l.length : Int)) : spP room last l 1 g c = ⟨0, 81, last, l⟩ := by
  unfold spP
  rw [if_pos (may_one l), if_pos h]
theorem Al.snoc {l : Ps} (h : Al l) (last : Int) (g c : ByteArray) : Al (l ++ [newP last 1 g c]) := fun p hp => by
  rcases List.mem_append.1 hp with hp | hp
  · exact h p hp
  · simp at hp; subst hp; exact ⟨rfl, rfl⟩
def zmP (x : Pr) (s : Int) : Pr := { x with zom := true, st := s }
theorem ex_al {a b : Ps} {x : Pr} {s : Int} (hs : Srt (a ++ x :: b)) (hr : ∀ p ∈ a ++ x :: b, 2 ≤ p.pid) (hA : Al (a ++ x :: b)) (h0 : 0 ≤ s) (h1 : s ≤ 255) : exE (a ++ x :: b) x.pid = 0 ∧ exL (a ++ x :: b) x.pid s = a ++ zmP x s :: b := by
  have hx : lk (a ++ x :: b) x.pid = some x := lk_of_mem hs (by simp)
  have hl : livP (a ++ x :: b) x.pid = true := by unfold livP; rw [hx]; simp [(hA x (by simp)).2]
  have hw : wiP s = s := by unfold wiP; rw [if_neg (by omega)]
  have hx2 := hr x (by simp)
  refine ⟨by unfold exE; rw [if_pos hl], ?_⟩
  unfold exL
  rw [if_pos hl, hx, hw]
  show (rep (a ++ x :: b) (zmP x s)).map (orph x.pid) = _
  rw [rep_at (x' := zmP x s) hs rfl]
  have hid : ∀ q ∈ a ++ zmP x s :: b, orph x.pid q = q := fun q hq => by
    have hq1 : q.par = 1 := by
      rcases List.mem_append.1 hq with hq | hq
      · exact (hA q (by simp [hq])).1
      · rcases List.mem_cons.1 hq with rfl | hq
        · exact (hA x (by simp)).1
        · exact (hA q (by simp [hq])).1
    unfold orph
    rw [if_neg (by omega)]
  rw [List.map_congr_left hid]
  simp
theorem rp_al {a b : Ps} {x : Pr} {s : Int} (hA : Al (a ++ x :: b)) : rpP (a ++ zmP x s :: b) 1 = some (zmP x s) := by
  unfold rpP
  rw [find_pre (fun q hq => by simp [rpB, (hA q (by simp [hq])).2]), List.find?_cons]
  have : rpB 1 (zmP x s) = true := by simp [rpB, zmP, (hA x (by simp)).1]
  rw [this]
theorem del_at {a b : Ps} {x x' : Pr} (hs : Srt (a ++ x :: b)) (hx : x'.pid = x.pid) : del (a ++ x' :: b) x.pid = a ++ b := by
  obtain ⟨h1, h2, h3⟩ := List.pairwise_append.1 hs
  obtain ⟨h4, h5⟩ := List.pairwise_cons.1 h2
  have ea : del a x.pid = a := del_none (fun q hq => by have := h3 q hq x (by simp); omega)
  have eb : del b x.pid = b := del_none (fun q hq => by have := h4 q hq; omega)
  unfold del at ea eb ⊢
  rw [List.filter_append, List.filter_cons, ea, eb]
  simp [hx]
theorem split_at {l : Ps} {k : Nat} {x : Pr} (h : l[k]? = some x) : l = l.take k ++ x :: l.drop (k + 1) := by
  rw [← drop_at h, List.take_append_drop]
theorem prs_at {l : Ps} : ∀ {k : Nat} {x : Pr}, l[k]? = some x → ∀ j, j < 6 → (prsC l)[k * 6 + j]? = (prC x)[j]? := by
  induction l with
  | nil => intro k x h; simp at h
  | cons a r ih =>
    intro k x h j hj
    have e : prsC (a :: r) = prC a ++ prsC r := by simp [prsC]
    rw [e]
    cases k with
    | zero =>
      simp at h; subst h
      rw [List.getElem?_append_left (by simp [prC]; omega)]
      congr 1
      omega
    | succ k =>
      simp at h
      rw [List.getElem?_append_right (by simp [prC]; omega), ← ih h j hj]
      congr 1
      simp [prC]; omega
set_option maxRecDepth 100000 in
set_option maxHeartbeats 4000000 in
theorem room_walk0 (n0 n1 n m k : Nat) (w : World) (h0 : n0 ≤ 255) (h1 : n1 ≤ 255) (hni : (n0 : Int) % 70 = (n : Int)) (hmi : (n1 : Int) % 20 = (m : Int)) (hm20 : m < 20) (hk : k ≤ 64) (hkm : min (n : Int) 64 = (k : Int)) :
    Calls Try.prog 5 #[.int .u8 n0, .int .u8 n1] w fun e w' => e = .returned (.bool true) ∧ Below w.heap.size w w' := by
  have hK := hidP (known_any w)
  have hrm : Hid (roomOf n = (k : Int)) := by show _ = _; unfold roomOf; omega
  have hK0 : 0 ≤ ((k : Int) : Int) := by omega
  have hK64 : ((k : Int) : Int) ≤ 64 := by omega
  go_enter Try.func5, Try.ntmps5
  go_wp2_with fail
  refine hK.out.mono ?_
  rintro e V ⟨rfl, hbV⟩
  have hN := hidP (new_n n V)
  go_wp2_with fail
  refine hN.out.mono ?_
  rintro e W1 ⟨bt, bm, rfl, T1'⟩
  have T1 := T1'.from hbV
  have wf1 := Wf.new n
  rw [hrm.out] at T1 wf1
  have T1H := hidP T1
  have wf1H := hidP wf1
  clear T1' T1 wf1 hbV hN hK hrm
  go_wp2_with fail
  go_loopw [8] (fun i wr => ∃ (j : Nat) (l : Ps), (j : Int) ≤ (k : Int) ∧ i = .int .i64 j ∧ Hid (Tn w bt bm (k : Int) ((j : Int) + 1) l wr ∧ Wf (k : Int) ((j : Int) + 1) l ∧ l.length = j ∧ Al l)) (fun i _ => ((k : Int) - intOf i).toNat)
  case atStart => exact ⟨0, [], by omega, rfl, T1H.out, wf1H.out, rfl, fun p hp => by simp at hp⟩
  case round =>
    obtain ⟨j, l, hj, rfl, hI⟩ := hrel
    by_cases hlt : (j : Int) < (k : Int)
    · have hS := hidP (spawn_n hI.out.1 hI.out.2.1 (by omega) 1 gB cB (by omega) (by omega) (sp_ok gB cB (by rw [hI.out.2.2.1]; exact hlt)))
      have hW := hidP (hI.out.2.1.spawn 1 gB cB)
      have e2 : (j : Int) + 2 = (j : Int) + 1 + 1 := by omega
      simp only [gB, cB] at hS
      go_wp2_with fail
      refine hS.out.mono ?_
      rintro e W2 ⟨rfl, T2, _⟩
      have T2H := hidP T2
      clear T2 hS
      have hnx : Hid (Tn w bt bm (k : Int) (((j + 1 : Nat) : Int) + 1) (l ++ [newP ((j : Int) + 1) 1 gB cB]) W2 ∧ Wf (k : Int) (((j + 1 : Nat) : Int) + 1) (l ++ [newP ((j : Int) + 1) 1 gB cB]) ∧ (l ++ [newP ((j : Int) + 1) 1 gB cB]).length = j + 1 ∧ Al (l ++ [newP ((j : Int) + 1) 1 gB cB])) := by
        have hw := hW.out
        rw [sp_ok gB cB (by rw [hI.out.2.2.1]; exact hlt)] at hw
        refine ⟨T2H.out, hw, by simp [hI.out.2.2.1], hI.out.2.2.2.snoc _ _ _⟩
      clear hW hI T2H
      go_wp2_with fail
      exact ⟨⟨j + 1, _, by omega, by go_num, hnx⟩, by simp [intOf]; omega⟩
    · have hjk : (j : Int) = (k : Int) := by omega
      have hS := hidP (spawn_n hI.out.1 hI.out.2.1 (by omega) 1 gB cB (by omega) (by omega) (sp_full gB cB (by rw [hI.out.2.2.1]; omega)))
      simp only [gB, cB] at hS
      go_wp2_with fail
      refine hS.out.mono ?_
      rintro e W2 ⟨rfl, T2, _⟩
      have hL := hidP (len_n T2 (n := (k : Int)) (by rw [hI.out.2.2.1]; exact hjk))
      clear T2 hS
      go_wp2_with fail
      refine hL.out.mono ?_
      rintro e W3 ⟨rfl, T3, _⟩
      have T3H := hidP T3
      clear T3 hL
      have hst : Hid (Tn w bt bm (k : Int) ((k : Int) + 1) l W3 ∧ Wf (k : Int) ((k : Int) + 1) l ∧ (l.length : Int) = (k : Int) ∧ Al l) := by
        have a := T3H.out
        have b := hI.out.2.1
        rw [hjk] at a b
        exact ⟨a, b, by rw [hI.out.2.2.1]; exact hjk, hI.out.2.2.2⟩
      clear hI T3H
      go_wp2_with fail
      go_loopw [13, 14] (fun la i wr => ∃ (j : Nat) (last : Int) (l : Ps), j ≤ m ∧ i = .int .i64 j ∧ la = .int .i64 last ∧ last ≤ 1000 + j ∧ 1 ≤ last ∧ Hid (Tn w bt bm (k : Int) last l wr ∧ Wf (k : Int) last l ∧ (l.length : Int) = (k : Int) ∧ Al l)) (fun _ i _ => m - (intOf i).toNat)
      case atStart => exact ⟨0, (k : Int) + 1, l, by omega, rfl, rfl, by omega, by omega, hst⟩
      case round =>
        clear hst
        obtain ⟨j, last, l, hj, rfl, rfl, hla, hl1, hI⟩ := hrel
        by_cases hlt : j < m
        · by_cases hk0 : k = 0
          · subst hk0
            have hb := hidP hI.out.1.be
            clear hI
            have hjI : (j : Int) < (m : Int) := by omega
            go_wp2_with fail
            go_ret
            exact ⟨rfl, hb.out⟩
          · have hkp : 0 < (k : Int) := by omega
            have hjI : (j : Int) < (m : Int) := by omega
            have hA := hidP (all_0 bt bm (k : Int) last l wr hI.out.1.tb hI.out.2.1.srt (by have := hI.out.2.1.len'; omega) (fun p hp => by have := hI.out.2.1.rng p hp; omega))
            go_wp2_with fail
            refine hA.out.mono ?_
            rintro e W4 ⟨v, rfl, hrow, hb4⟩
            have hl : l.length = k := by have := hI.out.2.2.1; omega
            rw [hl] at hrow
            obtain ⟨g, cap, rfl⟩ := ownsRow_succ hrow
            obtain ⟨r, hr⟩ : ∃ r, j % k = r := ⟨_, rfl⟩
            have hrk : r < k := by rw [← hr]; exact Nat.mod_lt _ (by omega)
            obtain ⟨x, hx⟩ : ∃ x, l[r]? = some x := ⟨_, List.getElem?_eq_getElem (by omega)⟩
            have hcell : W4.cell? ⟨g, (1 + r) * 6, none⟩ = some (.int .i64 x.pid) := by
              have h1 := prs_at (l := one :: l) (k := 1 + r) (x := x) (by rw [Nat.add_comm]; simpa using hx) 0 (by omega)
              have h2 := hrow.cells (g := g) rfl ((1 + r) * 6 + 0) (.int .i64 x.pid) (by rw [h1]; rfl)
              rw [Nat.add_zero] at h2
              simpa [Addr.add, show ¬ (1 + r) * 6 = 0 by omega] using h2
            have hri : Int.tmod (j : Int) (k : Int) = (r : Int) := by rw [Int.tmod_eq_emod_of_nonneg (by omega)]; omega
            have hri2 : (j : Int) % (k : Int) = (r : Int) := by omega
            have e1 : (k : Int) + 1 - 1 = (k : Int) := by omega
            have T4 := hI.out.1.below hb4
            obtain ⟨a, b, hab⟩ : ∃ a b, l = a ++ x :: b := ⟨_, _, split_at hx⟩
            clear hx
            subst hab
            obtain ⟨_, wf4, hlen, hAl⟩ := hI.out
            have hxr := wf4.rng x (by simp)
            have hxx := ex_al (s := (j : Int)) wf4.srt (fun p hp => (wf4.rng p hp).1) hAl (by omega) (by omega)
            have hE := hidP (exit_n T4 wf4 (by omega) x.pid j (by omega) (by omega) hxx.1 hxx.2)
            have wf5 := wf4.exit x.pid j
            rw [hxx.2] at wf5
            have hlen5 : ((a ++ zmP x j :: b).length : Int) = (k : Int) := by simpa using hlen
            have hrL : rpL (a ++ zmP x j :: b) 1 = a ++ b := by
              unfold rpL
              rw [rp_al hAl]
              exact del_at (x := zmP x j) (x' := zmP x j) wf5.srt rfl
            have hrE : rpE (a ++ zmP x j :: b) 1 = 0 := by unfold rpE; rw [rp_al hAl]
            have wf7 := wf5.reap 1
            rw [hrL] at wf7
            have hlen7 : ((a ++ b).length : Int) < (k : Int) := by simp at hlen5 ⊢; omega
            have wf8 := wf7.spawn 1 gB cB
            rw [sp_ok gB cB hlen7] at wf8
            have hAl8 : Al (a ++ b ++ [newP last 1 gB cB]) := Al.snoc (fun p hp => hAl p (by rcases List.mem_append.1 hp with h | h <;> simp [h])) _ _ _
            have hlen8 : ((a ++ b ++ [newP last 1 gB cB]).length : Int) = (k : Int) := by simp at hlen5 ⊢; omega
            have hrg := hidP (And.intro wf8 (And.intro hlen8 hAl8))
            have wf5H := hidP wf5
            have wf7H := hidP wf7
            have hrLH := hidP hrL
            have hrEH := hidP hrE
            have hlen5H := hidP hlen5
            have hlen7H := hidP hlen7
            have hrp := hidP (rp_al (s := (j : Int)) hAl)
            clear hA hrow hb4 T4 hI wf4 hlen hAl hxx wf5 hlen5 hrL hrE wf7 hlen7 wf8 hAl8 hlen8
            go_wp2_with fail
            refine hE.out.mono ?_
            rintro e W5 ⟨rfl, T5, _⟩
            have hS5 := hidP (spawn_n T5 wf5H.out (by omega) 1 gB cB (by omega) (by omega) (sp_full gB cB (by have := hlen5H.out; omega)))
            simp only [gB, cB] at hS5
            clear T5 hE
            go_wp2_with fail
            refine hS5.out.mono ?_
            rintro e W6 ⟨rfl, T6, _⟩
            have hR := hidP (reap_n T6 wf5H.out (by omega) 1 (p := zmP x j) (by rw [hrp.out]; rfl) hrEH.out hrLH.out)
            clear T6 hS5
            obtain ⟨p0, p1, p2, p3, p4, p5, p6, p7⟩ := x
            simp only [zmP, prV] at hR
            go_wp2_with fail
            refine hR.out.mono ?_
            rintro e W7 ⟨rfl, T7, _⟩
            have T7' := T7.below ((Below.refl _ _).alloc (Nat.le_refl _) (.cells #[.int .i64 p0, .int .i64 p1, .string p2, .bool true, .int .i64 j, .string p5] 40))
            have n7 : ¬ (W7.heap.size = bt ∨ W7.heap.size = bm) := by have := T7.tb.lt; have := T7.tb.ltm; omega
            have hS7 := hidP (spawn_n T7' wf7H.out (by omega) 1 gB cB (by omega) (by omega) (sp_ok gB cB hlen7H.out))
            simp only [gB, cB] at hS7
            have q0 : (W7.alloc (.cells #[.int .i64 p0, .int .i64 p1, .string p2, .bool true, .int .i64 j, .string p5] 40)).cell? ⟨W7.heap.size, 0, none⟩ = some (.int .i64 p0) := cell_at rfl rfl
            have q4 : (W7.alloc (.cells #[.int .i64 p0, .int .i64 p1, .string p2, .bool true, .int .i64 j, .string p5] 40)).cell? ⟨W7.heap.size, 4, none⟩ = some (.int .i64 j) := cell_at rfl rfl
            have q0H := hidP q0
            have q4H := hidP q4
            clear T7 T7' hR q0 q4
            go_wp2_with fail
            refine hS7.out.mono ?_
            rintro e W8 ⟨rfl, T8, m8⟩
            have k0 := m8.cell n7 q0H.out
            have k4 := m8.cell n7 q4H.out
            have T8H := hidP T8
            clear T8 m8 hS7
            go_wp2_with fail
            exact ⟨⟨j + 1, last + 1, _, by omega, by go_num, by go_num, by omega, by omega, T8H.out, hrg.out⟩, by simp [intOf]; omega⟩
        · obtain rfl : j = m := by omega
          have hb := hidP hI.out.1.be
          clear hI
          have hjI : decide ((j : Int) < (j : Int)) = false := by simp
          go_wp2_with fail
          go_ret
          exact ⟨rfl, hb.out⟩
theorem room_walk (n0 n1 : Nat) (w : World) (h0 : n0 ≤ 255) (h1 : n1 ≤ 255) :
    Calls Try.prog 5 #[.int .u8 n0, .int .u8 n1] w fun e w' => e = .returned (.bool true) ∧ Below w.heap.size w w' :=
  room_walk0 n0 n1 (n0 % 70) (n1 % 20) (min (n0 % 70) 64) w h0 h1 (by omega) (by omega) (by omega) (by omega) (by omega)
end Go.Proofs.Ytkefnmjoehnakaa
