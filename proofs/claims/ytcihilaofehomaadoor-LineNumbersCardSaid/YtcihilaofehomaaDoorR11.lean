/- What Lines and All tell, in one form. -/
import Derived.Test.YtcihilaofehomaaDoorR10
namespace Go.Proofs.YtcihilaofehomaaDoor
open Go.RowKit Lin
def lst : Res → List Ln
  | .ok l => l
  | .error _ => []
def cdN : Res → Int
  | .ok _ => 0
  | .error p => p.1
def cdK : Res → Int
  | .ok _ => 0
  | .error p => p.2
theorem lnsW_len : ∀ (r : List (Nat × L)) (l : List Ln), lnsW r = .ok l → l.length = r.length
  | [], l, h => by simp only [lnsW] at h; cases h; rfl
  | (n, t) :: r, l, h => by
    simp only [lnsW] at h
    split at h
    · cases h
    · split at h
      · cases h
      · split at h
        · rename_i q hq
          cases h
          have := lnsW_len r q hq
          simp [this]
        · cases h
theorem lst_len (s : L) : (lst (lns s)).length ≤ 4002 := by
  unfold lns
  split
  · simp [lst]
  · rename_i h
    cases hr : lnsW (whl 0 0 [] (pieces s)) with
    | error e => simp [lst]
    | ok l =>
      have h1 := lnsW_len _ _ hr
      have h2 := whl_len (pieces s) 0 0 []
      have h3 := tot_len (pieces s)
      rw [tot_pieces] at h3
      show l.length ≤ 4002
      omega
theorem own_lines2 {w : World} {base : Nat} {v : Value} {l : List Ln} (h : w.ownsRow base 34 4 v l.length (lnsC l)) : ∃ (a : Option Addr) (g cap : Nat), v = .slice a l.length cap ∧ (0 < l.length → a = some ⟨g, 0, none⟩) ∧ LnAt w g l ∧ l.length ≤ cap ∧ base ≤ g := by
  rcases h.2 with ⟨hv, h0⟩ | ⟨g, cap, cur, hv, hbg, _, hle, _⟩
  · refine ⟨none, base, 0, by rw [hv, h0], fun hp => by omega, fun j x hj => ?_, by omega, Nat.le_refl _⟩
    have := (List.getElem?_eq_some_iff.1 hj).1
    omega
  · obtain ⟨a, g', cap', hv', ha, hat, hc⟩ := own_lines h
    by_cases h0 : 0 < l.length
    · have e := ha h0
      rw [hv'] at hv
      simp only [Value.slice.injEq] at hv
      have e2 := hv.1
      rw [e] at e2
      have : g' = g := by simpa using e2
      exact ⟨a, g', cap', hv', ha, hat, hc, by omega⟩
    · refine ⟨a, base, cap', hv', fun h => absurd h h0, fun j x hj => ?_, hc, Nat.le_refl _⟩
      have := (List.getElem?_eq_some_iff.1 hj).1
      omega
theorem lines_out {r : Res} {w w' : World} {e : Ending} (h : LinesP r w e w') : ∃ (a : Option Addr) (g cap : Nat), e = .returned (.tuple #[.slice a (lst r).length cap, .int .i64 (cdN r), .int .i64 (cdK r)]) ∧ (0 < (lst r).length → a = some ⟨g, 0, none⟩) ∧ LnAt w' g (lst r) ∧ (lst r).length ≤ cap ∧ w.heap.size ≤ g ∧ Below w.heap.size w w' := by
  match r, h with
  | .ok l, ⟨v, he, ho, hb⟩ =>
    obtain ⟨a, g, cap, rfl, ha, hat, hc, hg⟩ := own_lines2 ho
    exact ⟨a, g, cap, he, ha, hat, hc, hg, hb⟩
  | .error (n, k), ⟨he, hb⟩ =>
    exact ⟨none, w.heap.size, 0, he, fun h => by simp [lst] at h, fun j x hj => by simp [lst] at hj, by simp [lst], Nat.le_refl _, hb⟩
set_option maxHeartbeats 1000000 in
theorem all_any (s : ByteArray) (w : World) (hg : Mx w) : Calls Tryd.prog 13 #[.string s] w fun e w' => ∃ (pv : Nat) (a : Option Addr) (g cap : Nat), e = .returned (.func (.func 48) #[] #[.pointer (some ⟨pv, 0, none⟩)]) ∧ w'.cell? ⟨pv, 0, none⟩ = some (.slice a (lst (lns s.data.toList)).length cap) ∧ (0 < (lst (lns s.data.toList)).length → a = some ⟨g, 0, none⟩) ∧ LnAt w' g (lst (lns s.data.toList)) ∧ w.heap.size ≤ g ∧ Below w.heap.size w w' := by
  have hli := lines_any s w hg
  have hv : ∀ (o : Option Addr) (n c : Nat) (w : World), Calls Tryd.prog 27 #[.slice o n c] w fun e w' => e = .returned (.func (.func 48) #[] #[.pointer (some ⟨w.heap.size, 0, none⟩)]) ∧ w' = w.alloc (.cells #[.slice o n c] 23) := by
    intro o n c w
    go_enter Tryd.func27, Tryd.ntmps27
    go_wp2_with fail
    go_ret
    exact ⟨rfl, rfl⟩
  have hvH : Hid (∀ (o : Option Addr) (n c : Nat) (w : World), Calls Tryd.prog 27 #[.slice o n c] w fun e w' => e = .returned (.func (.func 48) #[] #[.pointer (some ⟨w.heap.size, 0, none⟩)]) ∧ w' = w.alloc (.cells #[.slice o n c] 23)) := hv
  clear hv
  go_enter Tryd.func13, Tryd.ntmps13
  go_wp2_with fail
  refine hli.mono ?_
  intro e w1 h1
  obtain ⟨a, g, cap, rfl, ha, hat, hc, hgg, hb⟩ := lines_out h1
  clear h1 hli
  go_wp2_with fail
  refine (hvH.out _ _ _ _).mono ?_
  rintro e w2 ⟨rfl, rfl⟩
  go_wp2_with fail
  go_ret
  refine ⟨_, a, g, cap, rfl, cell_at rfl rfl, ha, hat.below ((Below.refl _ _).alloc (Nat.le_refl _) _), hgg, hb.alloc hb.size _⟩
end Go.Proofs.YtcihilaofehomaaDoor
