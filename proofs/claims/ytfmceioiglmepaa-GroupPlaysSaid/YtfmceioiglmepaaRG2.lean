/- The reference's Of. -/
import Derived.Test.YtfmceioiglmepaaRG1
namespace Go.Proofs.Ytfmceioiglmepaa
open Go.RowKit Go.Shelf Go.Lib
def hmR (l : List RG) (a : Int) : Option RG := l.find? fun x => decide (a ∈ x.ps)
theorem hmR_at {l : List RG} {a : Int} {i : Nat} {x : RG} (hx : l[i]? = some x) (ha : a ∈ x.ps) (h : ∀ j y, j < i → l[j]? = some y → a ∉ y.ps) : hmR l a = some x := by
  unfold hmR
  rw [List.find?_eq_some_iff_getElem]
  obtain ⟨hi, e⟩ := List.getElem?_eq_some_iff.1 hx
  exact ⟨by simpa using ha, i, hi, e, fun j hj => by simpa using h j _ hj (List.getElem?_eq_getElem (by omega))⟩
set_option maxRecDepth 100000 in
set_option maxHeartbeats 400000 in
theorem rof_any (R : Rt) (a : Int) (w : World) (h : Rs w R) (hl : R.l.length ≤ 1000) (hp : ∀ x ∈ R.l, x.ps.length ≤ 1000) :
    Calls Try.prog 19 #[.pointer (some ⟨R.b, 0, none⟩), .int .i64 a] w fun e w' => e = .returned (.tuple #[.string (((hmR R.l a).map RG.nm).getD ⟨#[]⟩), .bool (hmR R.l a).isSome]) ∧ w' = w := by
  obtain ⟨p, cap, hlv⟩ := h.shape
  have c0 := h.c0
  rw [hlv] at c0
  obtain ⟨n, hn⟩ : ∃ n, R.l.length = n := ⟨_, rfl⟩
  rw [hn] at c0 hl
  have hN := hidP hn
  have hH := hidP h
  have hlvH := hidP hlv
  have hpH := hidP hp
  clear h hn hlv hp
  go_enter Try.func19, Try.ntmps19
  go_wp2_with fail
  go_loop [6] (fun v => ∃ i : Nat, i ≤ n ∧ v = .int .i64 i ∧ Hid (∀ j x, j < i → R.l[j]? = some x → a ∉ x.ps)) (fun v => (n - (intOf v).toNat))
  case atStart => exact ⟨0, by omega, rfl, fun j x hj => by omega⟩
  case round =>
    obtain ⟨i, hi, rfl, hno⟩ := hrel
    by_cases hlt : i < n
    · have hltI : (i : Int) < (n : Int) := by omega
      obtain ⟨x, hx⟩ : ∃ x, R.l[i]? = some x := ⟨_, List.getElem?_eq_getElem (by have := hN.out; omega)⟩
      obtain ⟨g, cap2, e1, e2, e3⟩ := hH.out.at hx
      have hIR := (hH.out.ps x (List.mem_of_getElem? hx)).1
      have hxl := hpH.out x (List.mem_of_getElem? hx)
      obtain ⟨q, d, hv, hq⟩ := hIR
      rw [hlvH.out] at e1
      injection e1 with e1 _ _
      subst e1
      rw [hv] at e3
      obtain ⟨m, hm⟩ : ∃ m, x.ps.length = m := ⟨_, rfl⟩
      rw [hm] at e3 hxl
      have hmH := hidP hm
      have hqH := hidP hq
      have hxH := hidP hx
      have hnoH := hno
      clear hm hq hv hx hno
      go_wp2_with fail
      go_loop [7] (fun v => ∃ k : Nat, k ≤ m ∧ v = .int .i64 k ∧ Hid (∀ j y, j < k → x.ps[j]? = some y → y ≠ a)) (fun v => (m - (intOf v).toNat))
      case atStart => exact ⟨0, by omega, rfl, fun j x hj => by omega⟩
      case round =>
        obtain ⟨k, hk, rfl, hne⟩ := hrel
        by_cases hlt2 : k < m
        · have hltI2 : (k : Int) < (m : Int) := by omega
          obtain ⟨y, hy⟩ : ∃ y, x.ps[k]? = some y := ⟨_, List.getElem?_eq_getElem (by have := hmH.out; omega)⟩
          rcases hqH.out with hq | ⟨g2, o2, rfl, hc⟩
          · rw [hq] at hy; simp at hy
          · have cy := hc k y hy
            by_cases he : y = a
            · subst he
              have hfin : Hid (hmR R.l y = some x) := hmR_at hxH.out (List.mem_of_getElem? hy) hnoH.out
              clear hc hy hne
              go_wp2_with fail
              refine bodyPost_ret (v := .tuple #[.string x.nm, .bool true]) (by simp [results, Try.results19, go_sem]) rfl ?_
              exact ⟨by rw [hfin.out]; rfl, rfl⟩
            · have hnx : Hid (∀ j z, j < k + 1 → x.ps[j]? = some z → z ≠ a) := fun j z hj hz => by
                rcases Nat.lt_or_ge j k with r | r
                · exact hne.out j z r hz
                · obtain rfl : j = k := by omega
                  rw [hy] at hz
                  cases hz
                  exact he
              clear hc hy hne
              go_wp2_with fail
              exact ⟨⟨k + 1, by omega, by go_num, hnx⟩, by simp [intOf]; omega⟩
        · have hge2 : ¬ (k : Int) < (m : Int) := by omega
          have hnx : Hid (∀ j z, j < i + 1 → R.l[j]? = some z → a ∉ z.ps) := fun j z hj hz => by
            rcases Nat.lt_or_ge j i with r | r
            · exact hnoH.out j z r hz
            · obtain rfl : j = i := by omega
              rw [hxH.out] at hz
              cases hz
              intro hin
              obtain ⟨t, ht, e⟩ := List.getElem_of_mem hin
              exact hne.out t a (by have := hmH.out; omega) (by rw [List.getElem?_eq_getElem ht, e]) rfl
          clear hne
          go_wp2_with fail
          exact ⟨⟨i + 1, by omega, by go_num, hnx⟩, by simp [intOf]; omega⟩
    · have hge : ¬ (i : Int) < (n : Int) := by omega
      have hfin : Hid (hmR R.l a = none) := by
        show _ = _
        unfold hmR
        rw [List.find?_eq_none]
        intro x hx
        obtain ⟨t, ht, e⟩ := List.getElem_of_mem hx
        have := hno.out t x (by have := hN.out; omega) (by rw [List.getElem?_eq_getElem ht, e])
        simpa using this
      clear hno
      go_wp2_with fail
      refine bodyPost_ret (v := .tuple #[.string ⟨#[]⟩, .bool false]) (by simp [results, Try.results19, go_sem]) rfl ?_
      exact ⟨by rw [hfin.out]; rfl, rfl⟩
end Go.Proofs.Ytfmceioiglmepaa
