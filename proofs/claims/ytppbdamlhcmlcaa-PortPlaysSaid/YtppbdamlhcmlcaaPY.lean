/- Plain steps of a socket whose connections bear one text; Waiting, once. -/
import Derived.Test.YtppbdamlhcmlcaaPW
import Derived.Test.YtppbdamlhcmlcaaPI
import Derived.Test.YtppbdamlhcmlcaaLD
namespace Go.Proofs.Ytppbdamlhcmlcaa
open Go.RowKit Go.Shelf Go.Lib
def tgd (t : ByteArray) (i : Int) : Pr := (i, t)
theorem conn_full' {P : Pl} {s t : ByteArray} {ws : List Int} (h : P.q s = some (ws.map (tgd t))) (ht : t.size ≤ 200) (hl : ws.length = 16) : connectP P s t = (0, 102, P) := by
  unfold connectP
  rw [h]
  simp only
  rw [if_neg (by omega), if_pos (by simp; omega)]
theorem conn_ok' {P : Pl} {s t : ByteArray} {ws : List Int} (h : P.q s = some (ws.map (tgd t))) (ht : t.size ≤ 200) (hl : ws.length < 16) : connectP P s t = (P.last + 1, 0, ⟨upP P.q s (some ((ws ++ [P.last + 1]).map (tgd t))), P.ms, P.last + 1⟩) := by
  unfold connectP
  rw [h]
  simp only
  rw [if_neg (by omega), if_neg (by simp; omega), List.map_append]; rfl
theorem acc_none' {P : Pl} {s t : ByteArray} (h : P.q s = some (([] : List Int).map (tgd t))) : acceptP P s = (zP, 100, P) := by unfold acceptP; rw [h]; rfl
theorem acc_ok' {P : Pl} {s t : ByteArray} {x : Int} {r : List Int} (h : P.q s = some ((x :: r).map (tgd t))) : acceptP P s = (tgd t x, 0, ⟨upP P.q s (some (r.map (tgd t))), P.ms, P.last⟩) := by unfold acceptP; rw [h]; rfl
theorem close_ok' {P : Pl} {s : ByteArray} {xs : List Pr} (h : P.q s = some xs) : closeP P s = (0, ⟨upP P.q s none, P.ms, P.last⟩) := by unfold closeP; rw [h]; rfl
theorem listen_ok' {P : Pl} {s : ByteArray} (h : P.q s = none) (hs : s ≠ noName) : listenP P s = (0, ⟨upP P.q s (some []), P.ms, P.last⟩) := by unfold listenP; rw [if_neg hs, h]; rfl
theorem waiting_any (S : St) (s : ByteArray) (w : World) (h : Ps w S) (hs : s.size ≤ 1000) : Calls Try.prog 23 #[.pointer (some ⟨S.bt, 0, none⟩), .string s] w fun e w' => ∃ v, e = .returned v ∧ QS w' v (((pl S).q s).getD []) ∧ (∀ k, nb v = some k → w.heap.size ≤ k) ∧ Below w.heap.size w w' := by
  cases hq : S.sock s with
  | none =>
    refine (waiting_none S s w h hs hq).mono ?_
    rintro e w' ⟨rfl, rfl⟩
    rw [pl_q, hq]
    exact ⟨_, rfl, .inl ⟨rfl, rfl⟩, fun k hk => by (cases hk), Below.refl _ _⟩
  | some q =>
    refine (waiting_some S s q w h hs hq).mono ?_
    rw [pl_q, hq]
    exact fun e w' h => h
/-- How many wait. -/
theorem waiting_len (S : St) (s : ByteArray) (w : World) (h : Ps w S) (hs : s.size ≤ 1000) (m : Nat) (hm : (((pl S).q s).getD []).length = m) : Calls Try.prog 23 #[.pointer (some ⟨S.bt, 0, none⟩), .string s] w fun e w' => ∃ p c, e = .returned (.slice p m c) ∧ Below w.heap.size w w' := by
  refine (waiting_any S s w h hs).mono ?_
  rintro e w' ⟨v, rfl, hq, _, hb⟩
  obtain ⟨p, c, rfl⟩ := hq.shape
  exact ⟨p, c, by rw [hm], hb⟩
end Go.Proofs.Ytppbdamlhcmlcaa
