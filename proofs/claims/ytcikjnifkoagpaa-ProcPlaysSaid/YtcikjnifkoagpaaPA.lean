/- Contracts of package proc's New, Get, living, Signals, Len, within, Spawn, Fork, Kill. -/
import Derived.Test.YtcikjnifkoagpaaPT
namespace Go.Proofs.Ytcikjnifkoagpaa
open Go.RowKit Go.Shelf
theorem froz_new {W : World} {cs : Array Value} {t : TypeId} {n j : Nat} (hn : W.heap.size = n) : (W.alloc (.cells cs t)).frozen? ⟨n, j, none⟩ = false := by
  subst hn
  have := heap_alloc_new W (.cells cs t)
  unfold World.frozen?
  rw [this]
  simp
def roomOf (r : Int) : Int := min (max r 0) 64
set_option maxRecDepth 100000 in
set_option maxHeartbeats 1000000 in
theorem new_any (r : Int) (w : World) :
    Calls Try.prog 5 #[.int .i64 r] w fun e w' => ∃ bt bm, e = .returned (.pointer (some ⟨bt, 0, none⟩)) ∧ w.heap.size ≤ bt ∧ w.heap.size ≤ bm ∧ Tb w' bt bm (roomOf r) 1 [] ∧ Below w.heap.size w w' := by
  have hmm := @run_makeMap Try.prog
  go_enter Try.func5, Try.ntmps5
  go_wp2_with fail
  all_goals go_ret
  all_goals refine ⟨w.heap.size + 1, rfl, by omega, w.heap.size, Nat.le_refl _, ⟨?_, cell_at (by simp) rfl, cell_at (by simp) rfl, ?_, 0, by omega, ?_⟩, ((Below.refl _ _).alloc (Nat.le_refl _) _).alloc (by simp) _⟩
  all_goals try exact (World.ownsMap_made w _ _ _).alloc _
  all_goals try exact froz_new (by simp)
  all_goals first | rw [show roomOf r = 0 by unfold roomOf; omega] | rw [show roomOf r = 64 by unfold roomOf; omega] | rw [show roomOf r = r by unfold roomOf; omega]
  all_goals exact cell_at (by simp) rfl
set_option maxHeartbeats 1000000 in
theorem within_any (s : Int) (w : World) :
    Calls Try.prog 28 #[.int .i64 s] w fun e w' => e = .returned (.int .i64 (if s < -64 ∨ 255 < s then 255 else s)) ∧ w' = w := by
  by_cases hs : s < -64 ∨ 255 < s
  · rw [if_pos hs]
    go_enter Try.func28, Try.ntmps28
    go_wp2_with fail
    all_goals go_ret
    all_goals exact ⟨rfl, rfl⟩
  · rw [if_neg hs]
    have h1 : decide (s < -64) = false := by simp; omega
    have h2 : decide (255 < s) = false := by simp; omega
    go_enter Try.func28, Try.ntmps28
    go_wp2_with fail
    all_goals go_ret
    all_goals exact ⟨rfl, rfl⟩
/-- The process of a number, the first one's too. -/
def getP (l : Ps) (k : Int) : Pr := if k = 1 then one else (lk l k).getD zPr
def thereP (l : Ps) (k : Int) : Bool := decide (k = 1) || (lk l k).isSome
set_option maxRecDepth 100000 in
set_option maxHeartbeats 1000000 in
theorem get_any (bt bm : Nat) (room last : Int) (l : Ps) (k : Int) (w : World) (h : Tb w bt bm room last l) (h0 : -9223372036854775808 ≤ k) (h1 : k ≤ 9223372036854775807) :
    Calls Try.prog 17 #[.pointer (some ⟨bt, 0, none⟩), .int .i64 k] w fun e w' => e = .returned (.tuple #[prV (getP l k), .bool (thereP l k)]) ∧ Below w.heap.size w w' := by
  by_cases hk : k = 1
  · subst hk
    go_enter Try.func17, Try.ntmps17
    go_wp2_with fail
    exact bodyPost_ret (v := .tuple #[prV one, .bool true]) (by simp [results, Try.results17, go_sem, prV, one]) rfl ⟨rfl, (Below.refl _ _).alloc (Nat.le_refl _) _⟩
  · have hT : Hid (prV (getP l k) = prV ((lk l k).getD zPr) ∧ thereP l k = (lk l k).isSome) := by
      show _ ∧ _
      unfold getP thereP; rw [if_neg hk, decide_eq_false hk]; exact ⟨rfl, rfl⟩
    have hb : Below w.heap.size w (w.alloc (.cells #[.int .i64 0, .int .i64 0, .string ⟨#[]⟩, .bool false, .int .i64 0, .string ⟨#[]⟩] 40)) := (Below.refl _ _).alloc (Nat.le_refl _) _
    have hlk := (h.below hb).look h0 h1
    have c2 := (h.below hb).c2
    obtain ⟨q, hq⟩ : ∃ q, (lk l k).getD zPr = q := ⟨_, rfl⟩
    obtain ⟨s, hs⟩ : ∃ s, (lk l k).isSome = s := ⟨_, rfl⟩
    rw [hq, hs] at hlk hT
    obtain ⟨p0, p1, p2, p3, p4, p5, p6, p7⟩ := q
    simp only [psV] at hlk
    clear hq hs
    go_enter Try.func17, Try.ntmps17
    clear h hb
    go_wp2_with fail
    exact bodyPost_ret (v := .tuple #[prV ⟨p0, p1, p2, p3, p4, p5, p6, p7⟩, .bool s]) (by simp [results, Try.results17, go_sem, prV]) rfl ⟨by rw [hT.out.1, hT.out.2], ((Below.refl _ _).alloc (Nat.le_refl _) _).alloc (by simp) _⟩
set_option maxRecDepth 100000 in
set_option maxHeartbeats 1000000 in
theorem len_any (bt bm : Nat) (room last : Int) (l : Ps) (w : World) (h : Tb w bt bm room last l) :
    Calls Try.prog 21 #[.pointer (some ⟨bt, 0, none⟩)] w fun e w' => e = .returned (.int .i64 l.length) ∧ w' = w := by
  have hl := h.len 3
  have c2 := h.c2
  go_enter Try.func21, Try.ntmps21
  go_wp2_with fail
  go_ret
  exact ⟨rfl, rfl⟩
set_option maxRecDepth 100000 in
set_option maxHeartbeats 1000000 in
theorem sig_any (bt bm : Nat) (room last : Int) (l : Ps) (k : Int) (w : World) (h : Tb w bt bm room last l) (h0 : -9223372036854775808 ≤ k) (h1 : k ≤ 9223372036854775807) :
    Calls Try.prog 19 #[.pointer (some ⟨bt, 0, none⟩), .int .i64 k] w fun e w' => e = .returned (.tuple #[.bool ((lk l k).getD zPr).term, .bool ((lk l k).getD zPr).kill]) ∧ Below w.heap.size w w' := by
  have hlk := h.look1 h0 h1
  have c2 := h.c2
  obtain ⟨q, hq⟩ : ∃ q, (lk l k).getD zPr = q := ⟨_, rfl⟩
  rw [hq] at hlk ⊢
  obtain ⟨p0, p1, p2, p3, p4, p5, p6, p7⟩ := q
  simp only [psV] at hlk
  clear hq h
  go_enter Try.func19, Try.ntmps19
  go_wp2_with fail
  go_region
  go_wp2_with fail
  go_ret2
  exact ⟨rfl, ((Below.refl _ _).alloc (Nat.le_refl _) _).drew⟩
/-- One that can still end. -/
def livP (l : Ps) (k : Int) : Bool := (lk l k).isSome && !((lk l k).getD zPr).zom
set_option maxRecDepth 100000 in
set_option maxHeartbeats 1000000 in
theorem living_any (bt bm : Nat) (room last : Int) (l : Ps) (k : Int) (w : World) (h : Tb w bt bm room last l) (h0 : -9223372036854775808 ≤ k) (h1 : k ≤ 9223372036854775807) :
    Calls Try.prog 27 #[.pointer (some ⟨bt, 0, none⟩), .int .i64 k] w fun e w' => e = .returned (.tuple #[psV ((lk l k).getD zPr), .bool (livP l k)]) ∧ Below w.heap.size w w' := by
  have hT : Hid (livP l k = ((lk l k).isSome && !((lk l k).getD zPr).zom)) := rfl
  have hb : Below w.heap.size w (w.alloc (.cells #[.int .i64 0, .int .i64 0, .string ⟨#[]⟩, .bool false, .int .i64 0, .string ⟨#[]⟩, .bool false, .bool false] 64)) := (Below.refl _ _).alloc (Nat.le_refl _) _
  have hlk := (h.below hb).look h0 h1
  have c2 := (h.below hb).c2
  obtain ⟨q, hq⟩ : ∃ q, (lk l k).getD zPr = q := ⟨_, rfl⟩
  obtain ⟨s, hs⟩ : ∃ s, (lk l k).isSome = s := ⟨_, rfl⟩
  rw [hq, hs] at hlk hT
  rw [hq]
  obtain ⟨p0, p1, p2, p3, p4, p5, p6, p7⟩ := q
  simp only [psV] at hlk
  clear hq hs h hb
  cases s
  all_goals
    go_enter Try.func27, Try.ntmps27
    go_wp2_with fail
  · go_region
    go_wp2_with fail
    exact bodyPost_ret (v := .tuple #[psV ⟨p0, p1, p2, p3, p4, p5, p6, p7⟩, .bool false]) (by simp [results, Try.results27, go_sem, psV]) rfl ⟨by rw [hT.out]; rfl, (((Below.refl _ _).alloc (Nat.le_refl _) _).alloc (by simp) _).drew⟩
  · go_region
    go_wp2_with fail
    exact bodyPost_ret (v := .tuple #[psV ⟨p0, p1, p2, p3, p4, p5, p6, p7⟩, .bool (!p3)]) (by simp [results, Try.results27, go_sem, psV]) rfl ⟨by rw [hT.out]; rfl, (((Below.refl _ _).alloc (Nat.le_refl _) _).alloc (by simp) _).drew⟩
end Go.Proofs.Ytcikjnifkoagpaa
