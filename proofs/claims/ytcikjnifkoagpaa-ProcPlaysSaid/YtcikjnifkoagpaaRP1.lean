/- The reference's table in memory; its at, lives, Len. -/
import Derived.Test.YtcikjnifkoagpaaPT
namespace Go.Proofs.Ytcikjnifkoagpaa
open Go.RowKit
/-- The reference's table: its processes in a row, process 1 in front. -/
structure RT (W : World) (b g o cap : Nat) (room last : Int) (l : Ps) : Prop where
  c0 : W.cell? ⟨b, 0, none⟩ = some (.slice (some ⟨g, o, none⟩) l.length cap)
  c1 : W.cell? ⟨b, 1, none⟩ = some (.int .i64 room)
  c2 : W.cell? ⟨b, 2, none⟩ = some (.int .i64 last)
  e0 : ∀ (i : Nat) (p : Pr), l[i]? = some p → W.cell? ⟨g, o + i * 8, none⟩ = some (.int .i64 p.pid)
  e1 : ∀ (i : Nat) (p : Pr), l[i]? = some p → W.cell? ⟨g, o + i * 8 + 1, none⟩ = some (.int .i64 p.par)
  e2 : ∀ (i : Nat) (p : Pr), l[i]? = some p → W.cell? ⟨g, o + i * 8 + 2, none⟩ = some (.string p.grp)
  e3 : ∀ (i : Nat) (p : Pr), l[i]? = some p → W.cell? ⟨g, o + i * 8 + 3, none⟩ = some (.bool p.zom)
  e4 : ∀ (i : Nat) (p : Pr), l[i]? = some p → W.cell? ⟨g, o + i * 8 + 4, none⟩ = some (.int .i64 p.st)
  e5 : ∀ (i : Nat) (p : Pr), l[i]? = some p → W.cell? ⟨g, o + i * 8 + 5, none⟩ = some (.string p.cmd)
  e6 : ∀ (i : Nat) (p : Pr), l[i]? = some p → W.cell? ⟨g, o + i * 8 + 6, none⟩ = some (.bool p.term)
  e7 : ∀ (i : Nat) (p : Pr), l[i]? = some p → W.cell? ⟨g, o + i * 8 + 7, none⟩ = some (.bool p.kill)
  len : l.length ≤ 1000000
/-- The place of a number in the row; -1. -/
def ixP (l : Ps) (k : Int) : Int := match l.findIdx? (fun p => decide (p.pid = k)) with | some i => i | none => -1
theorem ixP_no {l : Ps} {k : Int} (h : ∀ (j : Nat) (p : Pr), l[j]? = some p → p.pid ≠ k) : ixP l k = -1 := by
  unfold ixP
  rw [List.findIdx?_eq_none_iff.2 (fun p hp => by
    obtain ⟨j, hj, rfl⟩ := List.mem_iff_getElem.1 hp
    simpa using h j _ (List.getElem?_eq_getElem hj))]
theorem ixP_at {l : Ps} {k : Int} {i : Nat} {p : Pr} (hp : l[i]? = some p) (hk : p.pid = k) (h : ∀ (j : Nat), j < i → ∀ q, l[j]? = some q → q.pid ≠ k) : ixP l k = i := by
  unfold ixP
  obtain ⟨hi, rfl⟩ := List.getElem?_eq_some_iff.1 hp
  rw [List.findIdx?_eq_some_iff_getElem.2 ⟨hi, by simpa using hk, fun j hj => by
    have hjl : j < l.length := by omega
    simpa using h j hj _ (List.getElem?_eq_getElem hjl)⟩]
set_option maxRecDepth 100000 in
set_option maxHeartbeats 1000000 in
theorem rat_any {b g o cap : Nat} {room last : Int} {l : Ps} (k : Int) (w : World) (h : RT w b g o cap room last l) :
    Calls Try.prog 30 #[.pointer (some ⟨b, 0, none⟩), .int .i64 k] w fun e w' => e = .returned (.int .i64 (ixP l k)) ∧ w' = w := by
  have h0 := h.c0
  have hl := h.len
  obtain ⟨n, hn⟩ : ∃ n, l.length = n := ⟨_, rfl⟩
  rw [hn] at h0 hl
  have hN : Hid (l.length = n) := hn
  have hH : Hid (RT w b g o cap room last l) := h
  clear h hn
  go_enter Try.func30, Try.ntmps30
  go_wp2_with fail
  go_loop [5] (fun a => ∃ i : Nat, i ≤ n ∧ a = .int .i64 i ∧ Hid (∀ (j : Nat), j < i → ∀ q, l[j]? = some q → q.pid ≠ k)) (fun a => (n - (intOf a).toNat))
  case atStart => exact ⟨0, by omega, rfl, fun j hj => by omega⟩
  case round =>
    obtain ⟨i, hi, rfl, hno⟩ := hrel
    by_cases hlt : i < n
    · obtain ⟨p, hp⟩ : ∃ p, l[i]? = some p := ⟨l[i]'(by have := hN.out; omega), List.getElem?_eq_getElem _⟩
      have c := hH.out.e0 i p hp
      have hpH : Hid (l[i]? = some p) := hp
      have hlI : (i : Int) < (n : Int) := by omega
      obtain ⟨d, hd⟩ : ∃ d, p.pid = d := ⟨_, rfl⟩
      rw [hd] at c
      have hdH : Hid (p.pid = d) := hd
      clear hp hd
      by_cases he : d = k
      · have hfin : Hid (ixP l k = (i : Int)) := ixP_at hpH.out (by rw [hdH.out, he]) hno.out
        go_wp2_with fail
        go_ret
        exact ⟨by rw [hfin.out]; rfl, rfl⟩
      · have hnx : Hid (∀ (j : Nat), j < i + 1 → ∀ q, l[j]? = some q → q.pid ≠ k) := fun j hj q hq => by
          by_cases e : j = i
          · subst e
            rw [hpH.out] at hq
            injection hq with hq
            rw [← hq, hdH.out]
            exact he
          · exact hno.out j (by omega) q hq
        go_wp2_with fail
        exact ⟨⟨i + 1, by omega, by go_num, hnx⟩, by simp [intOf]; omega⟩
    · obtain rfl : i = n := by omega
      have hfin : Hid (ixP l k = -1) := ixP_no (fun j p hp => hno.out j (by have := (List.getElem?_eq_some_iff.1 hp).1; have := hN.out; omega) p hp)
      go_wp2_with fail
      go_ret
      exact ⟨by rw [hfin.out]; rfl, rfl⟩
end Go.Proofs.Ytcikjnifkoagpaa
