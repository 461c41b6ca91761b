/- Contracts of package proc's Fork, Kill. -/
import Derived.Test.YtcikjnifkoagpaaPB
namespace Go.Proofs.Ytcikjnifkoagpaa
open Go.RowKit Go.Shelf
/-- What comes of Fork. -/
def fkP (room last : Int) (l : Ps) (k : Int) : Sp :=
  if livP l k = true ∧ ((lk l k).getD zPr).kill = false then spP room last l k ((lk l k).getD zPr).grp ((lk l k).getD zPr).cmd else ⟨0, 80, last, l⟩
set_option maxRecDepth 100000 in
set_option maxHeartbeats 4000000 in
theorem fork_any (bt bm : Nat) (room last : Int) (l : Ps) (k : Int) (w : World) (h : Tb w bt bm room last l) (h0 : -9223372036854775808 ≤ k) (h1 : k ≤ 9223372036854775807)
    (hl : ∀ q ∈ l, q.pid ≤ last) (hlen : l.length ≤ 900) (hla : 0 ≤ last) (hlb : last ≤ 1000000) :
    Calls Try.prog 9 #[.pointer (some ⟨bt, 0, none⟩), .int .i64 k] w fun e w' => e = .returned (.tuple #[.int .i64 (fkP room last l k).n, .int .i64 (fkP room last l k).e]) ∧ Tb w' bt bm room (fkP room last l k).last (fkP room last l k).l ∧ Mv (fun k => k = bt ∨ k = bm) w w' := by
  have hL := living_any bt bm room last l k w h h0 h1
  have hsp : ∀ g c W, Tb W bt bm room last l → Calls Try.prog 7 #[.pointer (some ⟨bt, 0, none⟩), .int .i64 k, .string g, .string c] W fun e w' => e = .returned (.tuple #[.int .i64 (spP room last l k g c).n, .int .i64 (spP room last l k g c).e]) ∧ Tb w' bt bm room (spP room last l k g c).last (spP room last l k g c).l ∧ Mv (fun k => k = bt ∨ k = bm) W w' := fun g c W hT => spawn_any bt bm room last l k g c W hT h0 h1 hl hlen hla hlb
  have hF : Hid (∀ x, (if livP l k = true ∧ ((lk l k).getD zPr).kill = false then spP room last l k ((lk l k).getD zPr).grp ((lk l k).getD zPr).cmd else ⟨0, 80, last, l⟩) = x → fkP room last l k = x) := fun x hx => hx
  obtain ⟨F, hFe⟩ : ∃ F, fkP room last l k = F := ⟨_, rfl⟩
  obtain ⟨q, hq⟩ : ∃ q, (lk l k).getD zPr = q := ⟨_, rfl⟩
  obtain ⟨s, hs⟩ : ∃ s, livP l k = s := ⟨_, rfl⟩
  rw [hq, hs] at hL hF
  rw [hFe]
  have hF2 := hF.out _ rfl
  rw [hFe] at hF2
  clear hq hs hF hFe
  obtain ⟨p0, p1, p2, p3, p4, p5, p6, p7⟩ := q
  simp only at hF2
  simp only [psV] at hL
  have hspH := hidP hsp
  clear hsp
  cases s with
  | false =>
    simp only [Bool.false_eq_true, false_and, if_false] at hF2
    subst hF2
    go_enter Try.func9, Try.ntmps9
    go_wp2_with fail
    refine hL.mono ?_
    rintro e w1 ⟨rfl, hb1⟩
    go_wp2_with fail
    go_ret2
    have hb := hb1.trans ((Below.refl _ w1).alloc hb1.size (.cells #[.int .i64 p0, .int .i64 p1, .string p2, .bool p3, .int .i64 p4, .string p5, .bool p6, .bool p7] 64))
    exact ⟨rfl, h.below hb, Mv.below hb⟩
  | true =>
    cases p7 with
    | true =>
      simp only [Bool.true_eq_false, and_false, if_false] at hF2
      subst hF2
      go_enter Try.func9, Try.ntmps9
      go_wp2_with fail
      refine hL.mono ?_
      rintro e w1 ⟨rfl, hb1⟩
      go_wp2_with fail
      go_ret2
      have hb := hb1.trans ((Below.refl _ w1).alloc hb1.size (.cells #[.int .i64 p0, .int .i64 p1, .string p2, .bool p3, .int .i64 p4, .string p5, .bool p6, .bool true] 64))
      exact ⟨rfl, h.below hb, Mv.below hb⟩
    | false =>
      simp only [and_self, if_true] at hF2
      go_enter Try.func9, Try.ntmps9
      go_wp2_with fail
      refine hL.mono ?_
      rintro e w1 ⟨rfl, hb1⟩
      have hB : Below w.heap.size w (w1.alloc (.cells #[.int .i64 p0, .int .i64 p1, .string p2, .bool p3, .int .i64 p4, .string p5, .bool p6, .bool false] 64)) := hb1.trans ((Below.refl _ _).alloc hb1.size _)
      have hS := hspH.out p2 p5 _ (h.below hB)
      rw [← hF2] at hS
      have hBH := hidP hB
      clear hb1 hB hL hF2
      go_wp2_with fail
      refine hS.mono ?_
      rintro e w2 ⟨rfl, hT2, m2⟩
      have hT2H := hidP hT2
      have m2H := hidP m2
      clear hT2 m2
      go_wp2_with fail
      go_ret2
      exact ⟨rfl, hT2H.out, (Mv.below hBH.out).trans' m2H.out⟩
/-- What comes of Kill: the table behind it. -/
def klP (l : Ps) (k sig : Int) : Option Pr :=
  if livP l k = true then (if sig = 15 then some { (lk l k).getD zPr with term := true } else if sig = 9 then some { (lk l k).getD zPr with kill := true } else none) else none
def klL (l : Ps) (k sig : Int) : Ps := match klP l k sig with | some p => rep l p | none => l
def klE (l : Ps) (k sig : Int) : Int := match klP l k sig with | some _ => 0 | none => 80
theorem liv_some {l : Ps} {k : Int} (h : livP l k = true) : ∃ p, lk l k = some p ∧ p.pid = k ∧ p ∈ l ∧ p.zom = false := by
  unfold livP at h
  cases e : lk l k with
  | none => rw [e] at h; simp at h
  | some p => rw [e] at h; exact ⟨p, rfl, lk_pid e, lk_mem e, by simpa using h⟩
theorem rep_len (l : Ps) (p : Pr) : (rep l p).length = l.length := by simp [rep]
theorem hidI2 {p : Prop} (h : p) : Hid p := h
set_option maxRecDepth 100000 in
set_option maxHeartbeats 4000000 in
theorem kill_any (bt bm : Nat) (room last : Int) (l : Ps) (k sig : Int) (w : World) (h : Tb w bt bm room last l) (h0 : -9223372036854775808 ≤ k) (h1 : k ≤ 9223372036854775807) (hs : Srt l) (hlen : l.length ≤ 900) :
    Calls Try.prog 13 #[.pointer (some ⟨bt, 0, none⟩), .int .i64 k, .int .i64 sig] w fun e w' => e = .returned (.int .i64 (klE l k sig)) ∧ Tb w' bt bm room last (klL l k sig) ∧ Mv (fun k => k = bt ∨ k = bm) w w' := by
  have hL := living_any bt bm room last l k w h h0 h1
  unfold klE klL klP
  cases hlv : livP l k with
  | false =>
    rw [hlv] at hL
    simp only [Bool.false_eq_true, if_false]
    obtain ⟨q, hq⟩ : ∃ q, (lk l k).getD zPr = q := ⟨_, rfl⟩
    rw [hq] at hL
    clear hq hlv
    obtain ⟨p0, p1, p2, p3, p4, p5, p6, p7⟩ := q
    simp only [psV] at hL
    go_enter Try.func13, Try.ntmps13
    go_wp2_with fail
    refine hL.mono ?_
    rintro e w1 ⟨rfl, hb1⟩
    go_wp2_with fail
    go_ret
    have hb := hb1.trans ((Below.refl _ w1).alloc hb1.size (.cells #[.int .i64 p0, .int .i64 p1, .string p2, .bool p3, .int .i64 p4, .string p5, .bool p6, .bool p7] 64))
    exact ⟨rfl, h.below hb, Mv.below hb⟩
  | true =>
    obtain ⟨p, hp, hpid, hmem, hzf⟩ := liv_some hlv
    rw [hlv] at hL
    simp only [if_true, hp, Option.getD_some] at hL ⊢
    clear hlv hp
    obtain ⟨p0, p1, p2, p3, p4, p5, p6, p7⟩ := p
    simp only at hpid hzf
    subst hpid
    subst hzf
    have hex : ∀ t u, (Dm l).put (.int .i64 p0) (.held (psV ⟨p0, p1, p2, false, p4, p5, t, u⟩)) = Dm (rep l ⟨p0, p1, p2, false, p4, p5, t, u⟩) := fun t u => put_rep (p := ⟨p0, p1, p2, false, p4, p5, t, u⟩) hs ⟨_, hmem, rfl⟩
    have hst : Hid (∀ t u W, Tb W bt bm room last l → ∃ w', (Instr.mapUpdate 55 (.map (some bm)) (.int .i64 p0) (psV ⟨p0, p1, p2, false, p4, p5, t, u⟩)).run Try.prog W = .ok () w' ∧ Tb w' bt bm room last (rep l ⟨p0, p1, p2, false, p4, p5, t, u⟩) ∧ Mv (fun k => k = bm) W w') :=
      fun t u W hT => hT.store (p := ⟨p0, p1, p2, false, p4, p5, t, u⟩) h0 h1 (hex t u) (by rw [rep_len]; omega)
    clear hex hs hmem
    simp only [psV] at hL
    by_cases h15 : sig = 15
    · subst h15
      simp only [if_true]
      go_enter Try.func13, Try.ntmps13
      go_wp2_with fail
      refine hL.mono ?_
      rintro e w1 ⟨rfl, hb1⟩
      obtain ⟨W, hW⟩ : ∃ W, w1.alloc (.cells #[.int .i64 p0, .int .i64 p1, .string p2, .bool false, .int .i64 p4, .string p5, .bool true, .bool p7] 64) = W := ⟨_, rfl⟩
      have hB : Below w.heap.size w W := by rw [← hW]; exact hb1.trans ((Below.refl _ _).alloc hb1.size _)
      have hT := h.below hB
      obtain ⟨w4, hrun, hT4, m4⟩ := hst.out true p7 W.drew (hT.mv (Mv.drew (fun _ => False) W) (fun h => h) (fun h => h))
      have hd : Hid (∀ j u, #[Value.int .i64 p0, .int .i64 p1, .string p2, .bool false, .int .i64 p4, .string p5, .bool true, .bool p7][j]? = some u → W.cell? ⟨w1.heap.size, j, none⟩ = some u) := fun j u hj => by rw [← hW]; exact cell_at rfl hj
      have d0 := hd.out 0 _ rfl
      have d1 := hd.out 1 _ rfl
      have d2 := hd.out 2 _ rfl
      have d3 := hd.out 3 _ rfl
      have d4 := hd.out 4 _ rfl
      have d5 := hd.out 5 _ rfl
      have d6 := hd.out 6 _ rfl
      have d7 := hd.out 7 _ rfl
      have c2 := hT.c2
      have fin := hidP (And.intro hT4 ((Mv.below (E := fun k => k = bt ∨ k = bm) hB.drew).trans' (m4.mono (fun k _ e => .inr e))))
      simp only [psV] at hrun
      clear hT4 m4 hT hB hL hb1 h hst hd
      go_wp2_with fail
      go_region
      go_wp2_with fail
      go_ret
      exact ⟨rfl, fin.out⟩
    · by_cases h9 : sig = 9
      · subst h9
        simp only [if_true, if_neg h15]
        go_enter Try.func13, Try.ntmps13
        go_wp2_with fail
        refine hL.mono ?_
        rintro e w1 ⟨rfl, hb1⟩
        obtain ⟨W, hW⟩ : ∃ W, w1.alloc (.cells #[.int .i64 p0, .int .i64 p1, .string p2, .bool false, .int .i64 p4, .string p5, .bool p6, .bool true] 64) = W := ⟨_, rfl⟩
        have hB : Below w.heap.size w W := by rw [← hW]; exact hb1.trans ((Below.refl _ _).alloc hb1.size _)
        have hT := h.below hB
        obtain ⟨w4, hrun, hT4, m4⟩ := hst.out p6 true W.drew (hT.mv (Mv.drew (fun _ => False) W) (fun h => h) (fun h => h))
        have hd : Hid (∀ j u, #[Value.int .i64 p0, .int .i64 p1, .string p2, .bool false, .int .i64 p4, .string p5, .bool p6, .bool true][j]? = some u → W.cell? ⟨w1.heap.size, j, none⟩ = some u) := fun j u hj => by rw [← hW]; exact cell_at rfl hj
        have d0 := hd.out 0 _ rfl
        have d1 := hd.out 1 _ rfl
        have d2 := hd.out 2 _ rfl
        have d3 := hd.out 3 _ rfl
        have d4 := hd.out 4 _ rfl
        have d5 := hd.out 5 _ rfl
        have d6 := hd.out 6 _ rfl
        have d7 := hd.out 7 _ rfl
        have c2 := hT.c2
        have fin := hidP (And.intro hT4 ((Mv.below (E := fun k => k = bt ∨ k = bm) hB.drew).trans' (m4.mono (fun k _ e => .inr e))))
        simp only [psV] at hrun
        clear hT4 m4 hT hB hL hb1 h hst hd
        go_wp2_with fail
        go_region
        go_wp2_with fail
        go_ret
        exact ⟨rfl, fin.out⟩
      · simp only [if_neg h15, if_neg h9]
        clear hst
        go_enter Try.func13, Try.ntmps13
        go_wp2_with fail
        refine hL.mono ?_
        rintro e w1 ⟨rfl, hb1⟩
        go_wp2_with fail
        go_ret
        have hb := hb1.trans ((Below.refl _ w1).alloc hb1.size (.cells #[.int .i64 p0, .int .i64 p1, .string p2, .bool false, .int .i64 p4, .string p5, .bool p6, .bool p7] 64))
        exact ⟨rfl, h.below hb, Mv.below hb⟩
end Go.Proofs.Ytcikjnifkoagpaa
