/- reveillehelp.Short. -/
import Derived.Test.YtcfclknfnadgcaaDoorGU
import Derived.Test.YtcfclknfnadgcaaDoorIt3
namespace Go.Proofs.YtcfclknfnadgcaaDoor
open Go.RowKit Go.Shelf Go.Lib
/-- A row of texts that came in: of any length. -/
def WR (w : World) (v : Value) (xs : List ByteArray) : Prop :=
  (xs = [] ∧ ∃ p c, v = .slice p 0 c) ∨ (∃ b o c, v = .slice (some ⟨b, o, none⟩) xs.length c ∧ xs ≠ [] ∧ xs.length ≤ 140737488355328 ∧ ∀ j x, xs[j]? = some x → w.cell? ⟨b, o + j, none⟩ = some (.string x))
theorem WR.mv {w w' : World} {v : Value} {xs : List ByteArray} {E : Nat → Prop} (h : WR w v xs) (m : Mv E w w') (hE : ∀ b, rbk v = some b → ¬ E b) : WR w' v xs := by
  rcases h with h | ⟨b, o, c, rfl, h1, h2, h3⟩
  · exact .inl h
  · have hb : rbk (.slice (some ⟨b, o, none⟩) xs.length c) = some b := by
      unfold rbk
      simp [h1]
    exact .inr ⟨b, o, c, rfl, h1, h2, fun j x hj => m.cell (hE b hb) (h3 j x hj)⟩
theorem WR.nr {w : World} {v : Value} {xs : List ByteArray} (h : WR w v xs) (hl : xs.length ≤ 1000000) : NR w v xs := by
  rcases h with h | ⟨b, o, c, rfl, h1, h2, h3⟩
  · exact .inl h
  · exact .inr ⟨b, o, c, rfl, h1, hl, h3⟩
/-- A unit that came in: its 33 cells. -/
structure UW (w : World) (vs : Array Value) (u : Un) : Prop where
  sz : vs.size = 33
  on : ∀ (p : Nat) (v : Value), vs[p]? = some v → v.oneCell' = true
  c0 : vs[0]? = some (.string u.nm)
  c1 : vs[1]? = some (.int .i64 u.kd)
  c10 : vs[10]? = some (.bool u.pl)
  c25 : vs[25]? = some (.string u.tg)
  ls : ∀ (i p : Nat), posL[i]? = some p → ∃ v, vs[p]? = some v ∧ WR w v (u.ls i)
  os : ∀ p, p < 33 → p ∉ posL → vs[p]? = some (u.ot p) ∧ rbk (u.ot p) = none
  tx : ∀ p, p = 24 ∨ p = 31 ∨ p = 32 → ∃ s, vs[p]? = some (.string s)
  ss : ∀ i, ∀ x ∈ u.ls i, x.size ≤ 9223372036854775807
theorem UW.mv {w w' : World} {vs : Array Value} {u : Un} {E : Nat → Prop} (h : UW w vs u) (m : Mv E w w') (hE : ∀ b, ubk vs b → ¬ E b) : UW w' vs u :=
  ⟨h.sz, h.on, h.c0, h.c1, h.c10, h.c25, fun i p hp => by obtain ⟨v, h1, h2⟩ := h.ls i p hp; exact ⟨v, h1, h2.mv m fun b hb => hE b ⟨p, v, h1, hb⟩⟩, h.os, h.tx, h.ss⟩
theorem UW.uv {w : World} {vs : Array Value} {u : Un} (h : UW w vs u) (hl : ∀ i, i < 13 → (u.ls i).length ≤ 1000000) : UV w vs u :=
  ⟨h.sz, h.on, h.c0, h.c1, h.c10, h.c25, fun i p hp => by
    obtain ⟨v, h1, h2⟩ := h.ls i p hp
    exact ⟨v, h1, h2.nr (hl i (by have := (List.getElem?_eq_some_iff.1 hp).1; exact this))⟩, h.os⟩
/-- What Short answers. -/
def ShE (xs : List ByteArray) (a b : Nat) (w : World) (e : Ending) (w' : World) : Prop := ∃ q, e = .returned (.bool q) ∧ (q = true → xs.length ≤ a ∧ ∀ x ∈ xs, x.size ≤ b) ∧ w' = w
set_option maxRecDepth 100000 in
set_option maxHeartbeats 2000000 in
theorem short_any (v : Value) (xs : List ByteArray) (a b : Nat) (w : World) (h : WR w v xs) (hs : ∀ x ∈ xs, x.size ≤ 9223372036854775807) :
    Calls Tryd.prog 29 #[v, .int .i64 a, .int .i64 b] w (ShE xs a b w) := by
  obtain ⟨n, hn⟩ : ∃ n, xs.length = n := ⟨_, rfl⟩
  have hcel : Hid (∀ (j : Nat) (x : ByteArray), xs[j]? = some x → ∃ g o c, v = .slice (some ⟨g, o, none⟩) n c ∧ w.cell? ⟨g, o + j, none⟩ = some (.string x)) := by
    intro j x hx
    rcases h with ⟨rfl, _⟩ | ⟨g, o, c, rfl, _, _, hc⟩
    · cases hx
    · exact ⟨g, o, c, by rw [hn], hc j x hx⟩
  have hn9 : n ≤ 140737488355328 := by
    rcases h with ⟨rfl, _⟩ | ⟨g, o, c, _, _, h1, _⟩
    · simp at hn; omega
    · omega
  obtain ⟨p, c, rfl⟩ : ∃ p c, v = .slice p n c := by
    rcases h with ⟨rfl, p, c, rfl⟩ | ⟨g, o, c, rfl, _⟩
    · simp at hn; subst hn; exact ⟨p, c, rfl⟩
    · exact ⟨_, c, by rw [hn]⟩
  have hS := hidP hs
  have hN := hidP hn
  clear h hs hn
  go_enter Tryd.func29, Tryd.ntmps29
  go_wp2_with fail
  go_loopw [7] (fun i wr => ∃ k : Nat, k ≤ n ∧ i = .int .i64 k ∧ wr = w ∧ Hid (∀ x ∈ xs.take k, x.size ≤ b)) (fun i _ => n - (intOf i).toNat)
  case atStart => exact ⟨0, by omega, rfl, rfl, fun x hx => by cases hx⟩
  case round =>
    obtain ⟨k, hk, rfl, rfl, hT⟩ := hrel
    by_cases hkl : k < n
    · have hkI : (k : Int) < (n : Int) := by omega
      obtain ⟨x, hx⟩ : ∃ x, xs[k]? = some x := ⟨_, List.getElem?_eq_getElem (by rw [hN.out]; exact hkl)⟩
      have hxs := hS.out x (List.mem_of_getElem? hx)
      obtain ⟨g, o, c', ep, hc⟩ := hcel.out k x hx
      obtain ⟨rfl, rfl⟩ : p = some ⟨g, o, none⟩ ∧ c = c' := by cases ep; exact ⟨rfl, rfl⟩
      clear ep
      by_cases hb1 : x.size ≤ b
      · have hbI : ¬ ((x.size : Int) > (b : Int)) := by omega
        have hbI2 : ¬ ((b : Int) < (x.size : Int)) := by omega
        have hT2 : Hid (∀ x ∈ xs.take (k + 1), x.size ≤ b) := fun y hy => by
          obtain ⟨h1, h2⟩ := List.getElem?_eq_some_iff.1 hx
          rw [List.take_succ_eq_append_getElem h1, h2] at hy
          rcases List.mem_append.1 hy with hy | hy
          · exact hT.out y hy
          · rw [List.mem_singleton.1 hy]; exact hb1
        clear hT hx
        go_wp2_with fail
        exact ⟨⟨k + 1, by omega, by go_num, trivial, hT2⟩, by simp [intOf]; omega⟩
      · have hbI : ((b : Int) < (x.size : Int)) := by omega
        clear hT hx
        go_wp2_with fail
        go_ret
        exact ⟨false, rfl, (fun q => by cases q), rfl⟩
    · have hke : k = n := by omega
      subst hke
      have hkI : ¬ (k : Int) < (k : Int) := by omega
      have fin : Hid (∀ x ∈ xs, x.size ≤ b) := by
        have := hT.out
        rwa [List.take_of_length_le (by rw [hN.out]; exact Nat.le_refl _)] at this
      clear hT
      go_wp2_with fail
      go_ret
      refine ⟨_, rfl, fun q => ⟨?_, fin.out⟩, rfl⟩
      rw [hN.out]
      have := of_decide_eq_true q
      omega
end Go.Proofs.YtcfclknfnadgcaaDoor
